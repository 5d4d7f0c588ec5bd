import PyProof.Rows.All
import HandS.DictComp
import Wide.All
import OpenK.AllK
import Wide.FinOn
import KE.KStateDown
import HandS.ForMost
import HandS.Wide
import HandS.IsInst
import HandS.Walk
import HandS.Style
import HandS.Evl
import HandS.StrMore
import HandS.Exc
import HandS.WordsExc
import HandS.Defaults
import HandS.Head0
import HandS.Head1
import HandS.Head2
import HandS.HeadEnd
import HandS.HeadHook1
import HandS.HeadHook2
import HandS.Gcd
import HandS.Head3
import HandS.Star
import HandS.RaiseMore
import HandS.AnyAll
import HandS.Conv
import HandS.More
import HandS.Small
import HandS.HeadHook3
import HandS.HeadHook4
import HandS.HeadWalk
import HandS.EndTab
import PyProof.GenCompT
import PyProof.TupleOfGen
import PyProof.WalksPairs
import KE.KTupSum
import KE.DataMinMax
import HandS.SortKw
import HandS.TupAny
import HandS.TupMul
import KE.KDictKeyed
import KE.SortData
import KE.KDictSum
import KE.KDictPairs
import HandS.Zip
import HandS.Codes
import HandS.TryElse
import HandS.HeadNt
import HandS.Property
import HandS.SetBool
import HandS.SetKeys
import HandS.Nested
import HandS.ExcInit
import HandS.ExcField
import HandS.ExcIs
import HandS.FStr
import KE.KExcSuper
import KE.KSuper
import HandS.TupSets
import HandS.ExcCtx
import HandS.Hot
import HandS.HotCalls
import HandS.ExcOwn
import HandS.ExcInitHot
import KE.KIsAll
import KE.GoesMore
import PyProof.EnumMake
import PyProof.Draws
import PyProof.EnumFor
import HandS.GenList
import HandS.GenCall
import HandS.GenBody
import HandS.Comp
import PyProof.CollectWalk
import HandS.Lambda
import PySem.Challenge.RW_meantrace_k78_rings_judged
set_option Elab.async false
set_option linter.all false
set_option maxRecDepth 100000
/-! Our own words over the hand layer: defs of the top by name, the draws' state, heaps that go on. -/
namespace Mt
open PySem PySem.Spec PyProof.Rows L2
section
variable {P : Program} {w : World} {K : PySem.W.Frag} {mg : Str → Option Value} {base : Heap}
abbrev FnP (K : PySem.W.Frag) (x : Str) (st : Stmt) (f : Addr) (fd : FuncData) : Prop := FunD K x x (defArgs st) (defBody st) (defScope st) [] [] f fd
/-- a def that keeps its promise -/
def Kept (P : Program) (w : World) (K : PySem.W.Frag) (mg : Str → Option Value) (base : Heap) (k : Nat) (x : Str) (ps : List Str) (sp : Sp) : Prop :=
  ∃ f fd, FnOk P w K mg base CX0 k f fd ps sp ∧ mg x = some (.ref f) ∧ PySem.W.keepIn K (.ref f) = true ∧ Binds K fd ps []
/-- what the head tells: facts by names, defs, one more word of one's own -/
abbrev AlM : Type := He.AlD × Bool
def obsM (n : Nat) (fa : List He.Fa) (fn : List He.DefD) (ex : PySem.W.Frag → Bool) (g : Addr → Option Obj) : AlM := (He.obsDG n fa fn g, ex (He.frG g (He.asD g n)))
def SaysM (fa : List He.Fa) (fn : List He.DefD) (ex : PySem.W.Frag → Bool) (K : PySem.W.Frag) : Prop := He.SaysD fa fn K ∧ ex K = true
def hookM (n : Nat) (fa : List He.Fa) (fn : List He.DefD) (ex : PySem.W.Frag → Bool) : PySem.W.Hook where
  α := AlM
  obs := fun s => obsM n fa fn ex s.heap.get?
  val := fun _ => (He.valD fn, true)
  says := fun _ h => ∃ K : PySem.W.Frag, K.In h ∧ SaysM fa fn ex K
  of := fun _ _ e => ⟨_, He.frG_in, congrArg (fun z : AlM => z.1) e, congrArg (fun z : AlM => z.2) e⟩
  keeps := fun _ _ _ ⟨K, hK, c⟩ k => ⟨K, PySem.W.Frag.In.keeps hK k, c⟩
theorem obsM_eq {n : Nat} {fa : List He.Fa} {fn : List He.DefD} {ex : PySem.W.Frag → Bool} {g : Addr → Option Obj} {s : Shared} (h : ∀ a, g a = s.heap.get? a) : obsM n fa fn ex g = (hookM n fa fn ex).obs s := by
  have e : g = s.heap.get? := funext h
  rw [e] <;> rfl
theorem kept_of {h : Heap} (X : K.In h) (G : h.Ns mainGlobals mg) {x : Str} {ps : List Str} {st : Stmt} {k : Nat} {sp : Sp}
    (hd : ∃ fd, FnP K x st (He.ga K x) fd) (hg : (He.Fa.glo x).ok K = true)
    (hb : ∀ (kV doc pm : Value) (an : Option Addr) (cdv ct : Value) (us : List Value), us.length = ps.length → bindArgs (PySem.W.fnOf x x (defArgs st) (defBody st) (defScope st) .none kV doc pm an cdv ct) ⟨us, []⟩ = pure (ps.zip us))
    (ok : ∀ f fd, FnP K x st f fd → FnOk P w K mg base CX0 k f fd ps sp) : Kept P w K mg base k x ps sp := by
  obtain ⟨fd, F⟩ := hd
  exact ⟨_, fd, ok _ fd F, He.glo_ok X G hg, F.kp, F.bindsN hb⟩
end
section
variable {X : Cx}
theorem pe_d {k : Nat} {x : Str} {ps : List Str} {sp : Sp} {e : Expr} {es : List Expr} {t : TA} {p pos : Pos} (D : Kept X.prog X.w X.K X.mg X.base k x ps sp) (hr : Room k X.A) (hg : Gl X x) (ha : PA X (e :: es) t)
    (hdb : (x == ("__debug__" : Str)) = false := by decide) (he : starEach (e :: es) X.env = (false, eval e X.env) :: starEach es X.env := by rfl) (hpl : (backTo pos (starEach es X.env)).any (·.1) = false := by rfl) :
    PE X (.Call (.Name x p) (e :: es) [] pos) (tCall sp [] E0 t) := by
  obtain ⟨f, fd, F, g, kp, b⟩ := D
  exact pe_call F hr hg g kp b .nil pass0 ha hdb he hpl
theorem pe_d0 {k : Nat} {x : Str} {ps : List Str} {sp : Sp} {p pos : Pos} (D : Kept X.prog X.w X.K X.mg X.base k x ps sp) (hr : Room k X.A) (hg : Gl X x) (hdb : (x == ("__debug__" : Str)) = false := by decide) :
    PE X (.Call (.Name x p) [] [] pos) (tCall sp [] E0 tNil) := by
  obtain ⟨f, fd, F, g, kp, b⟩ := D
  exact pe_call0 F hr hg g kp b .nil pass0 hdb
/-- a text of the module; an object of the module -/
theorem pe_gs {x z : Str} {pos : Pos} (h : ∃ t, X.mg x = some (.str z t)) (hg : Gl X x) (hd : (x == ("__debug__" : Str)) = false := by decide) : PE X (.Name x pos) (tC (.str z)) := by
  obtain ⟨t, h⟩ := h
  exact pe_glob hg h ⟨_, rfl⟩ hd
/-- xs[i] op= e reads xs[i] -/
theorem get_list : PGet X (rIxL X.K) := by
  intro pins s σ H o i ov iv Q I ro ri h
  obtain ⟨p, xs, i, z, rfl, rfl, hq, he, q⟩ := h
  cases ro
  obtain ⟨t, rfl⟩ := ri
  obtain ⟨its, r, pl, hz⟩ := I.list hq
  obtain ⟨j, h1, h2, h3, h4, h5⟩ := atI_get he
  obtain ⟨w, ew, rw'⟩ := r.get h2
  have hl := r.length
  have hn := line63
  have fin : EP X pins σ Q w s := ⟨z, H, I, rw', q⟩
  by_cases h0 : 0 ≤ i
  · have hj : i.toNat = j := by
      rw [seqIndex_of h0 h5] at h1
      exact Option.some.inj h1
    exact wpAny_mono (wpAny_getItem_list (Q := fun r s' => r = w ∧ EP X pins σ Q r s') pl.isList h0 (by omega) (by rw [hj]; simpa using ew) ⟨rfl, fin⟩) (fun _ _ q => q.2) (fun _ _ q => q)
  · have hj : (i + (its.toArray.size : Int)).toNat = j := by
      rw [seqIndex_neg (by omega) h4] at h1
      rw [List.size_toArray, ← hl]
      exact Option.some.inj h1
    exact wpAny_mono (wpAny_getItem_list_neg (Q := fun r s' => r = w ∧ EP X pins σ Q r s') pl.isList (by omega) (by rw [List.size_toArray] <;> omega) (by omega) (by rw [hj]; simpa using ew) ⟨rfl, fin⟩) (fun _ _ q => q.2) (fun _ _ q => q)
end

/-! ### the draws: [cells, place, rest, seed] at D -/
structure DrawAt (S D : Addr) (H : Hp) : Prop where
  ne : S ≠ D
  cells : ∃ cs : List Int, H S = some (.lst (cs.map V.int))
  at_ : ∃ i r c : Int, 0 ≤ i ∧ H D = some (.lst [.ref S, .int i, .int r, .int c])
/-- all else that is tracked stays -/
def Keep (D : Addr) (H H' : Hp) : Prop := ∀ b o, H b = some o → b ≠ D → H' b = some o
def Go (S D : Addr) (H H' : Hp) : Prop := DrawAt S D H' ∧ Keep D H H'
theorem Keep.refl {D : Addr} {H : Hp} : Keep D H H := fun _ _ h _ => h
theorem Keep.trans {D : Addr} {H H1 H2 : Hp} (a : Keep D H H1) (b : Keep D H1 H2) : Keep D H H2 := fun x o h n => b x o (a x o h n) n
theorem Go.trans {S D : Addr} {H H1 H2 : Hp} (a : Go S D H H1) (b : Go S D H1 H2) : Go S D H H2 := ⟨b.1, a.2.trans b.2⟩
theorem Keep.set {D : Addr} {H H' : Hp} {o : HO} (k : Keep D H H') : Keep D H (upd H' D o) := fun b u h n => by
  rw [upd_ne n]
  exact k b u h n
theorem DrawAt.set {S D : Addr} {H : Hp} (d : DrawAt S D H) {i r c : Int} (h : 0 ≤ i) : DrawAt S D (upd H D (.lst [.ref S, .int i, .int r, .int c])) :=
  ⟨d.ne, d.cells.imp fun cs h => by rw [upd_ne d.ne]; exact h, ⟨i, r, c, h, upd_same⟩⟩
theorem DrawAt.new {S D p : Addr} {H : Hp} {o : HO} (d : DrawAt S D H) (h : H p = none) : DrawAt S D (upd H p o) := by
  obtain ⟨cs, h1⟩ := d.cells
  obtain ⟨i, r, c, h0, h2⟩ := d.at_
  exact ⟨d.ne, ⟨cs, by rw [upd_ne (ne_of_none h1 h)]; exact h1⟩, ⟨i, r, c, h0, by rw [upd_ne (ne_of_none h2 h)]; exact h2⟩⟩
theorem Keep.new {D p : Addr} {H : Hp} {o : HO} (h : H p = none) : Keep D H (upd H p o) := fun b u e _ => by
  rw [upd_ne (ne_of_none e h)]
  exact e
theorem Go.new {S D p : Addr} {H : Hp} {o : HO} (d : DrawAt S D H) (h : H p = none) : Go S D H (upd H p o) := ⟨d.new h, Keep.new h⟩
theorem Go.same {S D : Addr} {H H' : Hp} (d : DrawAt S D H) (h : Same H H') : Go S D H H' := by
  obtain ⟨cs, h1⟩ := d.cells
  obtain ⟨i, r, c, h0, h2⟩ := d.at_
  exact ⟨⟨d.ne, ⟨cs, h _ _ h1⟩, ⟨i, r, c, h0, h _ _ h2⟩⟩, fun b o e _ => h b o e⟩
theorem Go.refl {S D : Addr} {H : Hp} (d : DrawAt S D H) : Go S D H H := ⟨d, Keep.refl⟩
/-- a fresh place stays fresh when looked at from behind -/
theorem DrawAt.free {S D p : Addr} {H : Hp} (d : DrawAt S D H) (h : H p = none) : p ≠ D ∧ p ≠ S := by
  obtain ⟨cs, h1⟩ := d.cells
  obtain ⟨i, r, c, h0, h2⟩ := d.at_
  exact ⟨(ne_of_none h2 h).symm, (ne_of_none h1 h).symm⟩
theorem Go.free {S D p : Addr} {H H' : Hp} (g : Go S D H H') (d : DrawAt S D H) (h : H' p = none) : H p = none := by
  cases q : H p with
  | none => rfl
  | some o =>
    by_cases e : p = D
    · exact absurd e (g.1.free h).1
    · rw [g.2 p o q e] at h
      cases h
def spDraw : Sp := fun vs H Q _ => ∃ (S D : Addr) (many : Int), vs = [.ref D, .int many] ∧ CDivW 0 many ∧ DrawAt S D H ∧ ∀ H' v, 0 ≤ v → v < many → Go S D H H' → Q (.int v) H'
end Mt
/-! ### sorted of tuples, any length; dict(pairs); tuple() with its object known -/
namespace SR
open PySem PySem.Spec PyProof.Rows L2
section
variable {prog : Program} {w : World} {A : Around} {s : Shared}
theorem sorts_single {v : Value} {as : List Addr} (r : Reads s.heap v (.tuple []) as) : PySem.W.SortsAt prog w A s (PySem.W.dataKind s.heap [.tuple []]) [v] := by
  have hal : PySem.W.AllAlike [PyData.tuple []] := fun d hd d' hd' => by
    rw [List.mem_singleton.mp hd, List.mem_singleton.mp hd']
    rfl
  refine ⟨fun u hu => ?_, tuples' true, fun E x y a b Q ha hb hq => ?_, fun h2 => absurd h2 (by simp)⟩
  · rw [List.mem_singleton.mp hu]
    exact ⟨_, PySem.W.dataKind_some hal List.mem_cons_self r⟩
  · obtain ⟨d, as1, hd, ra, rfl⟩ := PySem.W.dataKind_inv ha
    obtain ⟨d', as2, hd', rb, rfl⟩ := PySem.W.dataKind_inv hb
    rw [List.mem_singleton.mp hd] at ra hq
    rw [List.mem_singleton.mp hd'] at rb hq
    have hq' : Q (PySem.W.dataLt (.tuple []) (.tuple [])) s := hq
    rw [PySem.W.dataLt_tuple] at hq'
    cases ra with
    | @tuple l o xs n _ _ h1 h2 h3 h4 =>
      cases rb with
      | @tuple l' o' xs' n' _ _ k1 k2 k3 k4 =>
        have n1 : xs.toList = [] := by
          cases hx : xs.toList with
          | nil => rfl
          | cons z t => rw [hx] at h4; cases h4
        have n2 : xs'.toList = [] := by
          cases hx : xs'.toList with
          | nil => rfl
          | cons z t => rw [hx] at k4; cases k4
        refine PySem.W.kat_lt h1 h3 k1 k3 ?_
        rw [n1, n2]
        have e1 : xs.size = 0 := by rw [← Array.length_toList, n1]; rfl
        have e2 : xs'.size = 0 := by rw [← Array.length_toList, n2]; rfl
        show Q (decide (xs.size < xs'.size)) s
        rw [e1, e2]
        exact hq'
end
section
variable {X : Cx}
/-- what a list of tuples of data holds, when it can be sorted -/
def SrtOk (ds : List PyData) : Prop := PySem.W.AllAlike ds ∧ (PySem.W.Sortable ds ∨ ds = [.tuple []]) ∧ ∀ d ∈ ds, d.depth ≤ 8
def rSrt (K : PySem.W.Frag) : List V → Hp → VK → Prop := fun vs H Q => ∃ (a : Addr) (bs : List (V × PyData)), vs = [V.ref a] ∧ SqL K H a (bs.map (·.1)) ∧ (∀ b ∈ bs, Dp K H b.1 b.2) ∧ SrtOk (bs.map (·.2)) ∧
  ∀ (ys : List (V × PyData)) (p : Addr), ys.Perm bs → H p = none → Q (.ref p) (upd H p (.lst (ys.map (·.1))))
theorem each_vals {bs : List (V × PyData)} {us : List Value} (r : Vals (bs.map (·.1)) us) : PySem.W.EachIs (fun v (b : V × PyData) => RelV b.1 v) us bs := by
  induction bs generalizing us with
  | nil =>
    cases r
    exact .nil
  | cons b t ih =>
    cases r with
    | cons h r => exact .cons h (ih r)
theorem vals_each {bs : List (V × PyData)} {us : List Value} (e : PySem.W.EachIs (fun v (b : V × PyData) => RelV b.1 v) us bs) : Vals (bs.map (·.1)) us := by
  induction e with
  | nil => exact .nil
  | cons h t ih => exact .cons h ih
theorem each_reads {pins : List (Addr × Obj)} {σ : L2.St} {H : Hp} {s : Shared} (I : Inv X pins σ H s) {bs : List (V × PyData)} {us : List Value} (e : PySem.W.EachIs (fun v (b : V × PyData) => RelV b.1 v) us bs) (h : ∀ b ∈ bs, Dp X.K H b.1 b.2) :
    PySem.W.EachIs (fun v (b : V × PyData) => ∃ as, Reads s.heap v b.2 as) us bs := by
  induction e with
  | nil => exact .nil
  | @cons v b us bs r t ih => exact .cons (Dp.reads I b.2 b.1 v (h b List.mem_cons_self) r) (ih fun x hx => h x (List.mem_cons_of_mem _ hx))
theorem cr_srt (hu : X.A.units + 64 < cLine) : CallR X (.builtin "sorted") (rSrt X.K) := by
  intro pins s σ H vs us Q I r q
  obtain ⟨a, bs, rfl, hs, hd, ⟨hal, hk, hdep⟩, q⟩ := q
  rw [Vals.ref1 r]
  obtain ⟨its, rv, hl, hz⟩ := I.list hs
  rw [List.length_map] at hz
  have e := each_vals rv
  have er := each_reads I e hd
  have fin : ∀ out : List Value, out.length = bs.length → PySem.W.EachIs (fun v (b : V × PyData) => RelV b.1 v) out (bs.mergeSort (PySem.W.dataLe false (·.2))) → EP X pins σ Q (.ref (s.heap.objs.size + 1)) { s with heap := sortedAll s.heap its (List.toArray out) } := fun out ho1 ho2 => by
    obtain ⟨ep, he'⟩ := PyProof.Rows.sortedAll_at s.heap its out.toArray
    have hp : (bs.mergeSort (PySem.W.dataLe false (·.2))).Perm bs := List.mergeSort_perm _ _
    exact ⟨.ref _, upd H (s.heap.objs.size + 1) (.lst ((bs.mergeSort (PySem.W.dataLe false (·.2))).map (·.1))), I.laid (t' := s.toks) (fun _ _ => PyProof.Rows.sortedAll_old) (Nat.le_succ _)
      ⟨by rw [List.length_map, hp.length_eq]; exact hz, out, ep, vals_each ho2, he'⟩, rfl, q _ _ hp (I.hok.fresh (Nat.le_succ _))⟩
  rcases hk with hk | h1
  · exact PySem.W.sorted_data (bs := bs) (enc := (·.2)) (R := fun v b => RelV b.1 v) hl.isList e er hal hk hz (fun b hb => by
      have := hdep b.2 (List.mem_map.mpr ⟨b, hb, rfl⟩)
      omega) fin
  · have hlen : its.length = bs.length := e.length
    match its, bs, e, er, hlen, h1, fin, hl, hz with
    | [u], [b], e, er, _, h1, fin, hl, hz =>
      have hb : b.2 = .tuple [] := by
        have : [b.2] = [PyData.tuple []] := h1
        exact (List.cons.inj this).1
      obtain ⟨as, rd⟩ : ∃ as, Reads s.heap u (.tuple []) as := by
        cases er with
        | cons h _ =>
          rw [hb] at h
          exact h
      have rd' : Reads (PySem.W.sortingHeap (PySem.W.copyHeap s.heap [u]) (s.heap.objs.size + 1) [u]) u (.tuple []) as := PyProof.Rows.Reads.keeps (fun _ _ => PySem.W.sorting_copy_old) rd
      have er' : PySem.W.EachIs (fun v (b : V × PyData) => ∃ as, Reads (PySem.W.sortingHeap (PySem.W.copyHeap s.heap [u]) (s.heap.objs.size + 1) [u]) v b.2 as) [u] [b] := .cons ⟨as, by rw [hb]; exact rd'⟩ .nil
      refine PySem.W.sorted_vals (κ := PySem.W.dataKind (PySem.W.sortingHeap (PySem.W.copyHeap s.heap [u]) (s.heap.objs.size + 1) [u]) [.tuple []]) hl.isList (sorts_single (s := { s with heap := PySem.W.sortingHeap (PySem.W.copyHeap s.heap [u]) (s.heap.objs.size + 1) [u] }) rd') hz ?_
      refine fin _ (by rw [PySem.W.sortVals_length false rfl]; rfl) ?_
      have := PySem.W.sortVals_data (h' := PySem.W.sortingHeap (PySem.W.copyHeap s.heap [u]) (s.heap.objs.size + 1) [u]) false e er' hal
      rw [show List.map (fun x : V × PyData => x.2) [b] = [PyData.tuple []] from h1] at this
      exact this
    | [], [], _, _, _, h1, _, _, _ => exact absurd h1 (by simp)
    | [], _ :: _, _, _, hlen, _, _, _, _ => exact absurd hlen (by simp)
    | _ :: _, [], _, _, hlen, _, _, _, _ => exact absurd hlen (by simp)
    | [_], _ :: _ :: _, _, _, hlen, _, _, _, _ => exact absurd hlen (by simp)
    | _ :: _ :: _, [_], _, _, hlen, _, _, _, _ => exact absurd hlen (by simp)
    | _ :: _ :: _, _ :: _ :: _, _, _, _, h1, _, _, _ => exact absurd h1 (by simp)
/-- a tuple whose object is known, one without attributes of its own -/
def TupK (H : Hp) (a : Addr) (ys : List V) : Prop := ∃ o : Obj, H a = some (.frz o (.tup ys)) ∧ o.dict = none
theorem TupK.sqt {K : PySem.W.Frag} {H : Hp} {a : Addr} {ys : List V} (h : TupK H a ys) : SqT K H a ys := let ⟨o, h, _⟩ := h; .inl (.inr ⟨o, h⟩)
theorem cr_tupleK : CallR X (.type "tuple") (fun xs H Q => ∃ p ys, xs = [.ref p] ∧ SqL X.K H p ys ∧ ∀ l (o : Obj), H l = none → o.dict = none → Q (.ref l) (upd H l (.frz o (.tup ys)))) := by
  intro pins s σ H xs us Q I r h
  obtain ⟨p, ys, rfl, hq, q⟩ := h
  rw [Vals.ref1 r]
  obtain ⟨its, r', pl, hz⟩ := I.list hq
  have hlen := r'.length
  refine call_tuple_list pl.isList (fun h' kp => ?_) (by simp only [List.size_toArray] <;> omega)
  have I1 : Inv X pins σ H { s with heap := h' } := I.kept (t' := s.toks) kp
  have I2 : Inv X pins σ (upd H h'.objs.size (.frz { cls := .type "tuple", data := .seq its.toArray } (.tup ys))) { s with heap := h'.push { cls := .type "tuple", data := .seq its.toArray } } :=
    I1.laid (t' := s.toks) (fun b o e => Heap.get?_push_of_some _ e) (Nat.le_refl _) (show ObjOk X.prog X.w _ _ _ (.frz _ (.tup ys)) from ⟨Heap.get?_push_size _ rfl, hz, its, r', IsTup.new _ _⟩)
  exact ⟨.ref h'.objs.size, _, I2, rfl, q _ _ (I1.hok.fresh (Nat.le_refl _)) rfl⟩
def tTupK (t : TA) : TE := fun σ H Q => t σ H fun xs H1 => xs.length ≤ sizeLine ∧ ∀ p (o : Obj), H1 p = none → o.dict = none → Q (.ref p) (upd H1 p (.frz o (.tup xs)))
theorem pe_tupK {es : List Expr} {t : TA} {pos : Pos} {x1} (h : PA X es t) : PE X (.Tuple es x1 pos) (tTupK t) := by
  refine ⟨fun pins s σ H Q I hq => ?_⟩
  refine wpAny_Tuple_spliced (thn (h.run pos pins s σ H _ I hq) fun us s1 ⟨xs, H1, I1, r, z, q⟩ => ⟨by rw [← r.length]; exact z, ?_⟩)
  have hf : H1 s1.heap.objs.size = none := I1.hok.fresh (Nat.le_refl _)
  exact ⟨.ref s1.heap.objs.size, upd H1 s1.heap.objs.size (.frz { cls := .type "tuple", data := .seq us.toArray } (.tup xs)), I1.laid (t' := s1.toks) (fun b u e => Heap.get?_push_of_some _ e) (Nat.le_refl _)
    ⟨Heap.get?_push_size _ rfl, z, us, r, ⟨_, Heap.get?_push_size _ rfl, rfl, _, rfl⟩⟩, rfl, q _ _ hf rfl⟩
/-- dict(t): t a tuple of pairs of a text and an int -/
abbrev Ptr : Type := Addr × Str × Int
def rDictT (K : PySem.W.Frag) : List V → Hp → VK → Prop := fun vs H Q => ∃ (a : Addr) (ps : List Ptr), vs = [V.ref a] ∧ TupK H a (ps.map fun p => V.ref p.1) ∧ (∀ p ∈ ps, SqT K H p.1 [.str p.2.1, .int p.2.2]) ∧
  ∀ q, H q = none → Q (.ref q) (upd H q (.dK (mergeK [] (ps.map fun p => ((.inr p.2.1 : L2.Key), V.int p.2.2)))))
def PairV (h : Heap) (p : Ptr) (q : Value × Value) : Prop := PairAt h p.1 q.1 q.2 ∧ RelV (.str p.2.1) q.1 ∧ RelV (.int p.2.2) q.2
theorem pairs_ex {pins : List (Addr × Obj)} {σ : L2.St} {H : Hp} {s : Shared} (I : Inv X pins σ H s) : ∀ {ps : List Ptr}, (∀ p ∈ ps, SqT X.K H p.1 [.str p.2.1, .int p.2.2]) → ∃ qs : List (Value × Value), Paired (PairV s.heap) ps qs
  | [], _ => ⟨[], .nil⟩
  | p :: r, h => by
    obtain ⟨qs, hq⟩ := pairs_ex I (ps := r) fun x hx => h x (List.mem_cons_of_mem _ hx)
    obtain ⟨its, rv, pl, _⟩ := I.tuple (h p List.mem_cons_self)
    obtain ⟨u1, u2, rfl, r1, r2⟩ := Vals.two rv
    exact ⟨(u1, u2) :: qs, .cons ⟨.inl pl, r1, r2⟩ hq⟩
theorem cr_dictT (hcalm : X.calm = true) : CallR X (.type "dict") (rDictT X.K) := by
  intro pins s σ H vs us Q I r q
  obtain ⟨a, ps, rfl, ⟨o, ha, hod⟩, hp, q⟩ := q
  rw [Vals.ref1 r]
  obtain ⟨hoa, hz, its, rv, ⟨o', e1, e2, n, e3⟩⟩ := I.hok a _ ha
  rw [hoa] at e1
  cases e1
  obtain ⟨qs, hq⟩ := pairs_ex I hp
  have hl : ps.length = qs.length := Paired.length hq
  have hil := rv.length
  rw [List.length_map] at hil hz
  let Ts : Nat → Addr := fun j => (ps[j]?.map (·.1)).getD 0
  have hT : ∀ j p, ps[j]? = some p → Ts j = p.1 := fun j p e => by
    show (ps[j]?.map (·.1)).getD 0 = p.1
    rw [e]
    rfl
  have hitem : PairItems s.heap its.toArray Ts qs := by
    refine ⟨by rw [List.size_toArray]; omega, fun j k v e => ?_⟩
    have hj : j < ps.length := by
      have := (List.getElem?_eq_some_iff.mp e).1
      omega
    have ej : ps[j]? = some ps[j] := List.getElem?_eq_getElem hj
    obtain ⟨b, hb, h1, _, _⟩ := paired_get hq ej
    rw [e] at hb
    cases hb
    have em : (ps.map fun p => V.ref p.1)[j]? = some (V.ref ps[j].1) := by rw [List.getElem?_map, ej]; rfl
    obtain ⟨u, hu, ru⟩ := rv.get em
    cases ru
    exact ⟨by rw [List.getElem?_toArray, hT j _ ej]; exact hu, by rw [hT j _ ej]; exact h1⟩
  let kvs : List (L2.Key × Value) := (ps.zip qs).map fun z => (.inr z.1.2.1, z.2.2)
  have hkv : KV (ps.map fun p => ((.inr p.2.1 : L2.Key), V.int p.2.2)) kvs := by
    have go : ∀ {ps : List Ptr} {qs : List (Value × Value)}, Paired (PairV s.heap) ps qs → KV (ps.map fun p => ((.inr p.2.1 : L2.Key), V.int p.2.2)) ((ps.zip qs).map fun z => (.inr z.1.2.1, z.2.2)) := fun {ps qs} h => by
      induction h with
      | nil => exact .nil
      | cons h t ih => exact .cons ⟨rfl, h.2.2⟩ ih
    exact go hq
  have hhave : PairsHave (mixKind X.prog X.w) qs.length (PairRel qs) kvs := by
    refine ⟨by show ((ps.zip qs).map _).length = _; rw [List.length_map, List.length_zip]; omega, fun i key v e => ?_⟩
    have hj : i < ps.length := by
      have := (List.getElem?_eq_some_iff.mp e).1
      omega
    have ej : ps[i]? = some ps[i] := List.getElem?_eq_getElem hj
    obtain ⟨b, hb, _, h2, _⟩ := paired_get hq ej
    have e' : qs[i]? = some (key, v) := e
    rw [e'] at hb
    cases hb
    refine ⟨.inr ps[i].2.1, ?_, ?_⟩
    · show ((ps.zip qs).map _)[i]? = _
      rw [List.getElem?_map, show (ps.zip qs)[i]? = some (ps[i], (key, v)) from List.getElem?_zip_eq_some.mpr ⟨ej, e'⟩]
      rfl
    · obtain ⟨t, rfl⟩ := h2
      exact mixKind_str _ _ _ _
  refine call_dict_pairs (PairArg.tuple a its.toArray Ts qs) (I.ok.hd hcalm) ⟨⟨o, n, hoa, e2, hod, e3⟩, hitem⟩ hhave (by rw [← hl]; exact hz) fun h' tk hd' hk => ?_
  have hm : (s.heap.objs.size == sysModules) = false := beq_eq_false_iff_ne.mpr (Nat.ne_of_gt I.big)
  have rel := KV.merge hkv (.nil : KV [] [])
  exact ⟨.ref s.heap.objs.size, _, I.laid (t' := tk) (fun b u e => hk b u List.not_mem_nil e) (Nat.le_refl _) (dk_new (by
    have := length_mergeK (ps.map fun p => ((.inr p.2.1 : L2.Key), V.int p.2.2)) []
    rw [List.length_map] at this
    exact Nat.le_trans this (by show 0 + ps.length ≤ sizeLine; omega)) hm rel hd'), rfl, q _ (I.hok.fresh (Nat.le_refl _))⟩
end
end SR
namespace Mt
open PySem PySem.Spec PyProof.Rows L2
def topS (i : Nat) : Stmt := PySem.Challenge.pw_meantrace_k78_rings_judged.main.body.getD i (.Pass ⟨0, 0, 0, 0⟩)
abbrev s_branches_along : Stmt := topS 2
abbrev N_branches_along : List Str := ["rows", "state", "blocks", "found", "block", "fitting", "branch"]
theorem sc_branches_along : FnScope N_branches_along ["rows", "state", "blocks"] (defScope s_branches_along) := ⟨rfl, rfl, rfl, by decide +kernel, rfl, by decide +kernel, by decide +kernel⟩
abbrev s_ring_along : Stmt := topS 3
abbrev N_ring_along : List Str := ["rows", "way", "ring", "there", "begin", "around"]
theorem sc_ring_along : FnScope N_ring_along ["rows", "way", "ring"] (defScope s_ring_along) := ⟨rfl, rfl, rfl, by decide +kernel, rfl, by decide +kernel, by decide +kernel⟩
abbrev s_judge_ranks : Stmt := topS 5
abbrev N_judge_ranks : List Str := ["chain", "mark", "ranks", "rows", "rank", "row"]
theorem sc_judge_ranks : FnScope N_judge_ranks ["chain", "mark", "ranks"] (defScope s_judge_ranks) := ⟨rfl, rfl, rfl, by decide +kernel, rfl, by decide +kernel, by decide +kernel⟩
abbrev s_is_sure : Stmt := topS 6
abbrev N_is_sure : List Str := ["row", "mark", "ranks", "rank", "_", "shown", "target"]
theorem sc_is_sure : FnScope N_is_sure ["row", "mark", "ranks", "rank"] (defScope s_is_sure) := ⟨rfl, rfl, rfl, by decide +kernel, rfl, by decide +kernel, by decide +kernel⟩
abbrev s_judge_ring : Stmt := topS 7
abbrev N_judge_ring : List Str := ["chain", "mark", "paper", "way", "ring", "walked", "part", "branch"]
theorem sc_judge_ring : FnScope N_judge_ring ["chain", "mark", "paper"] (defScope s_judge_ring) := ⟨rfl, rfl, rfl, by decide +kernel, rfl, by decide +kernel, by decide +kernel⟩
abbrev s_make_fraction : Stmt := topS 9
abbrev N_make_fraction : List Str := ["n", "d", "common"]
theorem sc_make_fraction : FnScope N_make_fraction ["n", "d"] (defScope s_make_fraction) := ⟨rfl, rfl, rfl, by decide +kernel, rfl, by decide +kernel, by decide +kernel⟩
abbrev s_sum_of : Stmt := topS 10
abbrev N_sum_of : List Str := ["a", "b"]
theorem sc_sum_of : FnScope N_sum_of ["a", "b"] (defScope s_sum_of) := ⟨rfl, rfl, rfl, by decide +kernel, rfl, by decide +kernel, by decide +kernel⟩
abbrev s_product_of : Stmt := topS 11
abbrev N_product_of : List Str := ["a", "b"]
theorem sc_product_of : FnScope N_product_of ["a", "b"] (defScope s_product_of) := ⟨rfl, rfl, rfl, by decide +kernel, rfl, by decide +kernel, by decide +kernel⟩
abbrev s_is_less : Stmt := topS 12
abbrev N_is_less : List Str := ["a", "b"]
theorem sc_is_less : FnScope N_is_less ["a", "b"] (defScope s_is_less) := ⟨rfl, rfl, rfl, by decide +kernel, rfl, by decide +kernel, by decide +kernel⟩
abbrev s_worth_of : Stmt := topS 14
abbrev N_worth_of : List Str := ["worths", "shown", "table", "mark"]
theorem sc_worth_of : FnScope N_worth_of ["worths", "shown"] (defScope s_worth_of) := ⟨rfl, rfl, rfl, by decide +kernel, rfl, by decide +kernel, by decide +kernel⟩
abbrev s_worth_rows : Stmt := topS 16
abbrev N_worth_rows : List Str := ["chain", "worths", "_", "shown", "target", "row"]
theorem sc_worth_rows : FnScope N_worth_rows ["chain", "worths"] (defScope s_worth_rows) := ⟨rfl, rfl, rfl, by decide +kernel, rfl, by decide +kernel, by decide +kernel⟩
abbrev s_judge_rate : Stmt := topS 17
abbrev N_judge_rate : List Str := ["chain", "worths", "paper", "speed", "potentials", "way", "ring", "rows", "row", "potential", "walked", "total", "branch"]
theorem sc_judge_rate : FnScope N_judge_rate ["chain", "worths", "paper"] (defScope s_judge_rate) := ⟨rfl, rfl, rfl, by decide +kernel, rfl, by decide +kernel, by decide +kernel⟩
abbrev s_is_bound : Stmt := topS 18
abbrev N_is_bound : List Str := ["row", "speed", "potentials", "potential", "most", "worth", "target", "ahead"]
theorem sc_is_bound : FnScope N_is_bound ["row", "speed", "potentials", "potential"] (defScope s_is_bound) := ⟨rfl, rfl, rfl, by decide +kernel, rfl, by decide +kernel, by decide +kernel⟩
abbrev s__law_begin : Stmt := topS 20
abbrev N__law_begin : List Str := ["script", "cell"]
theorem sc__law_begin : FnScope N__law_begin ["script"] (defScope s__law_begin) := ⟨rfl, rfl, rfl, by decide +kernel, rfl, by decide +kernel, by decide +kernel⟩
abbrev s__law_draw : Stmt := topS 21
abbrev N__law_draw : List Str := ["d", "many", "found", "size", "cell"]
theorem sc__law_draw : FnScope N__law_draw ["d", "many"] (defScope s__law_draw) := ⟨rfl, rfl, rfl, by decide +kernel, rfl, by decide +kernel, by decide +kernel⟩
abbrev s__law_pick : Stmt := topS 22
abbrev N__law_pick : List Str := ["d", "row"]
theorem sc__law_pick : FnScope N__law_pick ["d", "row"] (defScope s__law_pick) := ⟨rfl, rfl, rfl, by decide +kernel, rfl, by decide +kernel, by decide +kernel⟩
abbrev s__law_pop : Stmt := topS 23
abbrev N__law_pop : List Str := ["d", "row"]
theorem sc__law_pop : FnScope N__law_pop ["d", "row"] (defScope s__law_pop) := ⟨rfl, rfl, rfl, by decide +kernel, rfl, by decide +kernel, by decide +kernel⟩
abbrev s__law_rare : Stmt := topS 24
abbrev N__law_rare : List Str := ["d", "many"]
theorem sc__law_rare : FnScope N__law_rare ["d", "many"] (defScope s__law_rare) := ⟨rfl, rfl, rfl, by decide +kernel, rfl, by decide +kernel, by decide +kernel⟩
abbrev s__law_shuffled : Stmt := topS 25
abbrev N__law_shuffled : List Str := ["d", "row", "left", "found", "k"]
theorem sc__law_shuffled : FnScope N__law_shuffled ["d", "row"] (defScope s__law_shuffled) := ⟨rfl, rfl, rfl, by decide +kernel, rfl, by decide +kernel, by decide +kernel⟩
abbrev s__law_pool : Stmt := topS 26
abbrev N__law_pool : List Str := ["text"]
theorem sc__law_pool : FnScope N__law_pool [] (defScope s__law_pool) := ⟨rfl, rfl, rfl, by decide +kernel, rfl, by decide +kernel, by decide +kernel⟩
abbrev s__law_frac : Stmt := topS 27
abbrev N__law_frac : List Str := ["n", "d", "a", "b", "rest"]
theorem sc__law_frac : FnScope N__law_frac ["n", "d"] (defScope s__law_frac) := ⟨rfl, rfl, rfl, by decide +kernel, rfl, by decide +kernel, by decide +kernel⟩
abbrev s__law_plus : Stmt := topS 28
abbrev N__law_plus : List Str := ["a", "b"]
theorem sc__law_plus : FnScope N__law_plus ["a", "b"] (defScope s__law_plus) := ⟨rfl, rfl, rfl, by decide +kernel, rfl, by decide +kernel, by decide +kernel⟩
abbrev s__law_minus : Stmt := topS 29
abbrev N__law_minus : List Str := ["a", "b"]
theorem sc__law_minus : FnScope N__law_minus ["a", "b"] (defScope s__law_minus) := ⟨rfl, rfl, rfl, by decide +kernel, rfl, by decide +kernel, by decide +kernel⟩
abbrev s__law_times : Stmt := topS 30
abbrev N__law_times : List Str := ["a", "b"]
theorem sc__law_times : FnScope N__law_times ["a", "b"] (defScope s__law_times) := ⟨rfl, rfl, rfl, by decide +kernel, rfl, by decide +kernel, by decide +kernel⟩
abbrev s__law_less : Stmt := topS 31
abbrev N__law_less : List Str := ["a", "b"]
theorem sc__law_less : FnScope N__law_less ["a", "b"] (defScope s__law_less) := ⟨rfl, rfl, rfl, by decide +kernel, rfl, by decide +kernel, by decide +kernel⟩
abbrev s__law_words : Stmt := topS 32
abbrev N__law_words : List Str := ["d", "base", "many", "words", "k", "at", "word", "digit"]
theorem sc__law_words : FnScope N__law_words ["d", "base", "many"] (defScope s__law_words) := ⟨rfl, rfl, rfl, by decide +kernel, rfl, by decide +kernel, by decide +kernel⟩
abbrev s__law_worth : Stmt := topS 33
abbrev N__law_worth : List Str := ["worths", "shown", "found", "mark", "worth", "one"]
theorem sc__law_worth : FnScope N__law_worth ["worths", "shown"] (defScope s__law_worth) := ⟨rfl, rfl, rfl, by decide +kernel, rfl, by decide +kernel, by decide +kernel⟩
abbrev s__law_downhill : Stmt := topS 34
abbrev N__law_downhill : List Str := ["d", "base", "states", "mark", "other", "rows", "s", "row", "word"]
theorem sc__law_downhill : FnScope N__law_downhill ["d", "base", "states", "mark", "other"] (defScope s__law_downhill) := ⟨rfl, rfl, rfl, by decide +kernel, rfl, by decide +kernel, by decide +kernel⟩
abbrev s__law_turned : Stmt := topS 35
abbrev N__law_turned : List Str := ["d", "rows", "many", "order_now", "found", "s", "digits", "shown", "there"]
theorem sc__law_turned : FnScope N__law_turned ["d", "rows"] (defScope s__law_turned) := ⟨rfl, rfl, rfl, by decide +kernel, rfl, by decide +kernel, by decide +kernel⟩
abbrev s__law_wide_shown : Stmt := topS 36
abbrev N__law_wide_shown : List Str := ["d", "marks", "k"]
theorem sc__law_wide_shown : FnScope N__law_wide_shown ["d", "marks"] (defScope s__law_wide_shown) := ⟨rfl, rfl, rfl, by decide +kernel, rfl, by decide +kernel, by decide +kernel⟩
abbrev s__law_wide_chain : Stmt := topS 37
abbrev N__law_wide_chain : List Str := ["d", "base", "states", "marks", "rows", "s", "row", "word"]
theorem sc__law_wide_chain : FnScope N__law_wide_chain ["d", "base", "states", "marks"] (defScope s__law_wide_chain) := ⟨rfl, rfl, rfl, by decide +kernel, rfl, by decide +kernel, by decide +kernel⟩
abbrev s__law_silent_chain : Stmt := topS 38
abbrev N__law_silent_chain : List Str := ["d", "marks", "most", "base", "states", "rows", "s", "k", "branch"]
theorem sc__law_silent_chain : FnScope N__law_silent_chain ["d", "marks", "most"] (defScope s__law_silent_chain) := ⟨rfl, rfl, rfl, by decide +kernel, rfl, by decide +kernel, by decide +kernel⟩
abbrev s__law_longest : Stmt := topS 39
abbrev N__law_longest : List Str := ["chain", "mark", "many", "alive", "ranks", "step", "fresh", "s", "on", "branch"]
theorem sc__law_longest : FnScope N__law_longest ["chain", "mark"] (defScope s__law_longest) := ⟨rfl, rfl, rfl, by decide +kernel, rfl, by decide +kernel, by decide +kernel⟩
abbrev s__law_drawn_worths : Stmt := topS 40
abbrev N__law_drawn_worths : List Str := ["d", "marks", "found", "mark", "way"]
theorem sc__law_drawn_worths : FnScope N__law_drawn_worths ["d", "marks"] (defScope s__law_drawn_worths) := ⟨rfl, rfl, rfl, by decide +kernel, rfl, by decide +kernel, by decide +kernel⟩
abbrev s__law_ways_to : Stmt := topS 41
abbrev N__law_ways_to : List Str := ["chain", "found", "line", "k", "digits", "shown", "there"]
theorem sc__law_ways_to : FnScope N__law_ways_to ["chain"] (defScope s__law_ways_to) := ⟨rfl, rfl, rfl, by decide +kernel, rfl, by decide +kernel, by decide +kernel⟩
abbrev s__law_best_ring : Stmt := topS 42
abbrev N__law_best_ring : List Str := ["chain", "worths", "states", "best", "s", "sums", "step", "fresh", "here", "digits", "shown", "there", "size", "pace"]
theorem sc__law_best_ring : FnScope N__law_best_ring ["chain", "worths", "states"] (defScope s__law_best_ring) := ⟨rfl, rfl, rfl, by decide +kernel, rfl, by decide +kernel, by decide +kernel⟩
abbrev s__law_along : Stmt := topS 43
abbrev N__law_along : List Str := ["chain", "worths", "start", "blocks", "state", "size", "block", "found", "branch"]
theorem sc__law_along : FnScope N__law_along ["chain", "worths", "start", "blocks"] (defScope s__law_along) := ⟨rfl, rfl, rfl, by decide +kernel, rfl, by decide +kernel, by decide +kernel⟩
abbrev s__law_rate_taken : Stmt := topS 44
abbrev N__law_rate_taken : List Str := ["chain", "worths", "paper", "pace", "potentials", "way", "ring", "s", "most", "digits", "shown", "there", "ahead", "around"]
theorem sc__law_rate_taken : FnScope N__law_rate_taken ["chain", "worths", "paper"] (defScope s__law_rate_taken) := ⟨rfl, rfl, rfl, by decide +kernel, rfl, by decide +kernel, by decide +kernel⟩
abbrev s__law_is_bool : Stmt := topS 45
abbrev N__law_is_bool : List Str := ["told", "due"]
theorem sc__law_is_bool : FnScope N__law_is_bool ["told", "due"] (defScope s__law_is_bool) := ⟨rfl, rfl, rfl, by decide +kernel, rfl, by decide +kernel, by decide +kernel⟩
abbrev s__law_ranks_taken : Stmt := topS 46
abbrev N__law_ranks_taken : List Str := ["chain", "mark", "ranks", "s", "digits", "shown", "there"]
theorem sc__law_ranks_taken : FnScope N__law_ranks_taken ["chain", "mark", "ranks"] (defScope s__law_ranks_taken) := ⟨rfl, rfl, rfl, by decide +kernel, rfl, by decide +kernel, by decide +kernel⟩
abbrev s__law_ring_taken : Stmt := topS 47
abbrev N__law_ring_taken : List Str := ["chain", "mark", "way", "ring", "quiet", "row", "branch", "ahead", "around"]
theorem sc__law_ring_taken : FnScope N__law_ring_taken ["chain", "mark", "way", "ring"] (defScope s__law_ring_taken) := ⟨rfl, rfl, rfl, by decide +kernel, rfl, by decide +kernel, by decide +kernel⟩
abbrev s__law_some_ranks : Stmt := topS 48
abbrev N__law_some_ranks : List Str := ["d", "chain", "mark", "ranks", "way", "s", "size", "rank"]
theorem sc__law_some_ranks : FnScope N__law_some_ranks ["d", "chain", "mark"] (defScope s__law_some_ranks) := ⟨rfl, rfl, rfl, by decide +kernel, rfl, by decide +kernel, by decide +kernel⟩
abbrev s__law_some_ring : Stmt := topS 49
abbrev N__law_some_ring : List Str := ["d", "chain", "mark", "state", "blocks", "met", "step", "row", "branch", "digits", "shown", "ends", "k", "end", "start"]
theorem sc__law_some_ring : FnScope N__law_some_ring ["d", "chain", "mark"] (defScope s__law_some_ring) := ⟨rfl, rfl, rfl, by decide +kernel, rfl, by decide +kernel, by decide +kernel⟩
abbrev s__law_bent_ring : Stmt := topS 50
abbrev N__law_bent_ring : List Str := ["d", "base", "way", "ring", "turn", "k", "word", "step"]
theorem sc__law_bent_ring : FnScope N__law_bent_ring ["d", "base", "way", "ring"] (defScope s__law_bent_ring) := ⟨rfl, rfl, rfl, by decide +kernel, rfl, by decide +kernel, by decide +kernel⟩
abbrev s__law_own_paper : Stmt := topS 51
abbrev N__law_own_paper : List Str := ["chain", "worths", "whole", "ways_found", "states", "s", "pace", "start", "ring", "heights", "step", "fresh", "digits", "shown", "there", "height", "potentials"]
theorem sc__law_own_paper : FnScope N__law_own_paper ["chain", "worths", "whole"] (defScope s__law_own_paper) := ⟨rfl, rfl, rfl, by decide +kernel, rfl, by decide +kernel, by decide +kernel⟩
abbrev s__law_some_paper : Stmt := topS 52
abbrev N__law_some_paper : List Str := ["d", "chain", "worths", "mark", "pace", "potentials", "way", "ring", "turn", "s", "more", "lifted", "part"]
theorem sc__law_some_paper : FnScope N__law_some_paper ["d", "chain", "worths", "mark"] (defScope s__law_some_paper) := ⟨rfl, rfl, rfl, by decide +kernel, rfl, by decide +kernel, by decide +kernel⟩
abbrev s_law : Stmt := topS 53
abbrev N_law : List Str := ["script", "d", "names", "marks", "k", "chain", "worths", "rows", "rings", "way", "ring", "papers", "turn", "taken"]
theorem sc_law : FnScope N_law ["script"] (defScope s_law) := ⟨rfl, rfl, rfl, by decide +kernel, rfl, by decide +kernel, by decide +kernel⟩
structure Txt (K : PySem.W.Frag) (mg : Str → Option Value) : Prop where
  b_int : mg "int" = none
  b_abs : mg "abs" = none
  b_len : mg "len" = none
  b_isinstance : mg "isinstance" = none
  b_bool : mg "bool" = none
  b_tuple : mg "tuple" = none
  b_list : mg "list" = none
  b_range : mg "range" = none
  b_sum : mg "sum" = none
  b_all : mg "all" = none
  b_any : mg "any" = none
  b_sorted : mg "sorted" = none
  b_zip : mg "zip" = none
  b_dict : mg "dict" = none
  f_gcd : mg "gcd" = some (.builtin "math.gcd")
theorem upd_upd {H : Hp} {p : Addr} {a b : HO} : upd (upd H p a) p b = upd H p b := by
  funext x
  unfold upd
  split <;> rfl
theorem take_map_succ {α β : Type} {f : α → β} {l : List α} {i : Nat} {c : α} (h : l[i]? = some c) : (l.take i).map f ++ [f c] = (l.take (i + 1)).map f := by
  rw [List.take_add_one, h, List.map_append]
  rfl
theorem divW_of {n : Int} (h : 0 < n) (h2 : n < 2 ^ 64) : CDivW 0 n := wide_div h (b := 64) (by omega) (by decide) (by decide)
theorem getV {ns : List Int} {i : Nat} {x : V} (h : (ns.map V.int)[i]? = some x) : ∃ z, x = .int z ∧ ns[i]? = some z := by
  rw [List.getElem?_map] at h
  cases e : ns[i]? with
  | none =>
    rw [e] at h
    cases h
  | some z =>
    rw [e] at h
    exact ⟨z, (Option.some.inj h).symm, rfl⟩
def spBegin (K : PySem.W.Frag) : Sp := fun vs H Q _ => ∃ (a : Addr) (ns : List Int), vs = [.ref a] ∧ SqL K H a (ns.map V.int) ∧ ns.length ≤ 63 ∧ ∀ S D H', Same H H' → H D = none → DrawAt S D H' → Q (.ref D) H'
/-- a text or a list, what it holds -/
def Row (K : PySem.W.Frag) (H : Hp) (v : V) (xs : List V) : Prop := (∃ z : Str, v = .str z ∧ xs = z.cps.toList.map fun c => .str ⟨#[c]⟩) ∨ (∃ p, v = .ref p ∧ SqL K H p xs) ∨ ∃ p, v = .ref p ∧ SqT K H p xs
def spPick (K : PySem.W.Frag) : Sp := fun vs H Q _ => ∃ (S D : Addr) (r : V) (xs : List V), vs = [.ref D, r] ∧ DrawAt S D H ∧ (∀ H', Go S D H H' → Row K H' r xs) ∧ 0 < xs.length ∧ xs.length ≤ 100000 ∧ ∀ H' x, x ∈ xs → Go S D H H' → Q x H'

theorem same_new {H : Hp} {p : Addr} {o : HO} (h : H p = none) : Same H (upd H p o) := fun b x e => by
  rw [upd_ne (ne_of_none e h)]
  exact e
/-- a change at a place that H does not know -/
theorem same_mut {H H' : Hp} {p : Addr} {o : HO} (s : Same H H') (h : H p = none) : Same H (upd H' p o) := fun b u e => by
  rw [upd_ne (ne_of_none e h)]
  exact s b u e
theorem iteNT {A B : Prop} (h : B) : if (!true) = true then A else B := iteF h
theorem line5 {n : Nat} (h : n ≤ 100000) : n ≤ sizeLine := Nat.le_trans h (by decide)
theorem line6 {n : Nat} (h : n < 100000) : n < sizeLine := Nat.lt_of_lt_of_le h (by decide)
/-! ### data as it stands in the heap -/
def KeepT (H H' : Hp) : Prop := ∀ p xs, Rd H p (.tup xs) → Rd H' p (.tup xs)
theorem KeepT.of_same {H H' : Hp} (s : Same H H') : KeepT H H' := fun p xs h => by
  rcases h with h | ⟨o, h⟩
  · exact .inl (s _ _ h)
  · exact .inr ⟨o, s _ _ h⟩
theorem KeepT.trans {H H1 H2 : Hp} (a : KeepT H H1) (b : KeepT H1 H2) : KeepT H H2 := fun p xs h => b p xs (a p xs h)
mutual
def noL : PyData → Bool
  | .list _ => false
  | .dict _ => false
  | .tuple ds => noLs ds
  | _ => true
def noLs : List PyData → Bool
  | [] => true
  | d :: ds => noL d && noLs ds
end
theorem sqt_keep {K : PySem.W.Frag} {H H' : Hp} {a : Addr} {xs : List V} (k : KeepT H H') (h : SqT K H a xs) : SqT K H' a xs := by
  rcases h with h | h
  · exact .inl (k _ _ h)
  · exact .inr h
mutual
theorem dp_keep {K : PySem.W.Frag} {H H' : Hp} (k : KeepT H H') : ∀ (d : PyData) (v : V), noL d = true → Dp K H v d → Dp K H' v d
  | .none, _, _, h => by
    cases h
    exact .non
  | .bool b, _, _, h => by
    cases h
    exact .bl b
  | .int i, _, _, h => by
    cases h
    exact .int i
  | .str x, _, _, h => by
    cases h
    exact .str x
  | .list ds, _, n, _ => by
    have n2 : false = true := n
    cases n2
  | .dict ds, _, n, _ => by
    have n2 : false = true := n
    cases n2
  | .tuple ds, _, n, h => by
    cases h with
    | tup h1 h2 => exact .tup (sqt_keep k h1) (dpA_keep k ds _ n h2)
theorem dpA_keep {K : PySem.W.Frag} {H H' : Hp} (k : KeepT H H') : ∀ (ds : List PyData) (xs : List V), noLs ds = true → DpAll K H xs ds → DpAll K H' xs ds
  | [], _, _, h => by
    cases h
    exact .nil
  | d :: ds, _, n, h => by
    cases h with
    | cons h1 h2 =>
      have n2 : (noL d && noLs ds) = true := n
      rw [Bool.and_eq_true] at n2
      exact .cons (dp_keep k d _ n2.1 h1) (dpA_keep k ds _ n2.2 h2)
end
theorem dp_tup {K : PySem.W.Frag} {H : Hp} {v : V} {ds : List PyData} (h : Dp K H v (.tuple ds)) : ∃ a xs, v = .ref a ∧ SqT K H a xs ∧ DpAll K H xs ds := by
  cases h with
  | tup h1 h2 => exact ⟨_, _, rfl, h1, h2⟩
theorem dp_str {K : PySem.W.Frag} {H : Hp} {v : V} {z : Str} (h : Dp K H v (.str z)) : v = .str z := by
  cases h
  rfl
theorem dp_int {K : PySem.W.Frag} {H : Hp} {v : V} {z : Int} (h : Dp K H v (.int z)) : v = .int z := by
  cases h
  rfl
theorem dp_non {K : PySem.W.Frag} {H : Hp} {v : V} (h : Dp K H v .none) : v = .non := by
  cases h
  rfl
theorem dpA_nil {K : PySem.W.Frag} {H : Hp} {xs : List V} (h : DpAll K H xs []) : xs = [] := by
  cases h
  rfl
theorem dpA_cons {K : PySem.W.Frag} {H : Hp} {xs : List V} {d : PyData} {ds : List PyData} (h : DpAll K H xs (d :: ds)) : ∃ x r, xs = x :: r ∧ Dp K H x d ∧ DpAll K H r ds := by
  cases h with
  | cons h1 h2 => exact ⟨_, _, rfl, h1, h2⟩
theorem dpA_len {K : PySem.W.Frag} {H : Hp} : ∀ {ds : List PyData} {xs : List V}, DpAll K H xs ds → xs.length = ds.length
  | [], _, h => by rw [dpA_nil h]; rfl
  | d :: ds, _, h => by
    obtain ⟨x, r, rfl, _, h2⟩ := dpA_cons h
    rw [List.length_cons, List.length_cons, dpA_len h2]
theorem dpA_at {K : PySem.W.Frag} {H : Hp} : ∀ {ds : List PyData} {xs : List V} {i : Nat} {x : V}, DpAll K H xs ds → xs[i]? = some x → ∃ d, ds[i]? = some d ∧ Dp K H x d
  | [], _, i, x, h, e => by
    rw [dpA_nil h] at e
    simp at e
  | d :: ds, _, 0, x, h, e => by
    obtain ⟨y, r, rfl, h1, h2⟩ := dpA_cons h
    have e2 : y = x := Option.some.inj e
    subst e2
    exact ⟨d, rfl, h1⟩
  | d :: ds, _, i + 1, x, h, e => by
    obtain ⟨y, r, rfl, h1, h2⟩ := dpA_cons h
    obtain ⟨d', h3, h4⟩ := dpA_at (i := i) (x := x) h2 (by simpa using e)
    exact ⟨d', by simpa using h3, h4⟩
theorem noLs_map {α : Type} (f : α → PyData) : ∀ l : List α, (∀ x ∈ l, noL (f x) = true) → noLs (l.map f) = true
  | [], _ => rfl
  | x :: r, h => by
    show (noL (f x) && noLs (r.map f)) = true
    rw [h x List.mem_cons_self, noLs_map f r fun y hy => h y (List.mem_cons_of_mem _ hy)]
    rfl
theorem keepT_new {H : Hp} {L : Addr} {o : HO} (h : H L = none) : KeepT H (upd H L o) := KeepT.of_same (same_new h)
theorem ixT {X : Cx} {K : PySem.W.Frag} (h : X.K = K) : IxR X (rIxT K) := h ▸ ix_tup
theorem isiT {X : Cx} {K : PySem.W.Frag} (h : X.K = K) : CallR X (.builtin "isinstance") (rIsi K) := h ▸ call_isi
theorem map_at {α : Type} {f : α → PyData} {l : List α} {i : Nat} {d : PyData} (h : (l.map f)[i]? = some d) : ∃ x, l[i]? = some x ∧ f x = d := by
  rw [List.getElem?_map] at h
  cases e : l[i]? with
  | none =>
    rw [e] at h
    cases h
  | some x =>
    rw [e] at h
    exact ⟨x, rfl, Option.some.inj h⟩
theorem dpA_snoc {K : PySem.W.Frag} {H : Hp} : ∀ {ds : List PyData} {xs : List V} {x : V} {d : PyData}, DpAll K H xs ds → Dp K H x d → DpAll K H (xs ++ [x]) (ds ++ [d])
  | [], _, _, _, h, hx => by
    rw [dpA_nil h]
    exact .cons hx .nil
  | d0 :: ds, _, _, _, h, hx => by
    obtain ⟨y, r, rfl, h1, h2⟩ := dpA_cons h
    exact .cons h1 (dpA_snoc h2 hx)
theorem sqt_ty {K : PySem.W.Frag} {H : Hp} {a : Addr} {xs : List V} (h : SqT K H a xs) : TyX K H (.ref a) (.type "tuple") := by
  rcases h with (h | ⟨o, h⟩) | ⟨o, its, n, hk, hc, _⟩
  · exact .base (.tup h)
  · exact .fTuple h
  · exact .kTuple hk hc
/-! ### fractions -/
abbrev F2 : Type := Int × Int
def gg (n d : Int) : Nat := Nat.gcd n.natAbs d.natAbs
def fr (n d : Int) : F2 := ((if d < 0 then -n else n) / (gg n d : Int), (if d < 0 then -d else d) / (gg n d : Int))
def add2 (a b : F2) : Int × Int := (a.1 * b.2 + b.1 * a.2, a.2 * b.2)
def sub2 (a b : F2) : Int × Int := (a.1 * b.2 - b.1 * a.2, a.2 * b.2)
def mul2 (a b : F2) : Int × Int := (a.1 * b.1, a.2 * b.2)
def div2 (a b : F2) : Int × Int := (a.1 * b.2, a.2 * b.1)
def frp (x : Int × Int) : F2 := fr x.1 x.2
theorem gg_pos {n d : Int} (h : d ≠ 0) : 0 < gg n d := Nat.gcd_pos_of_pos_right _ (Int.natAbs_pos.mpr h)
theorem gg_le {n d : Int} (h : d ≠ 0) : gg n d ≤ d.natAbs := Nat.gcd_le_right _ (Int.natAbs_pos.mpr h)
/-- in lowest terms, the second at least 1 -/
structure Low (x : F2) : Prop where
  pos : 1 ≤ x.2
  co : Nat.gcd x.1.natAbs x.2.natAbs = 1
theorem fr_low {n d : Int} (h : d ≠ 0) : Low (fr n d) := by
  have g0 := gg_pos (n := n) h
  have gd1 : (gg n d : Int) ∣ d := Int.ofNat_dvd_left.mpr (Nat.gcd_dvd_right _ _)
  have gn1 : (gg n d : Int) ∣ n := Int.ofNat_dvd_left.mpr (Nat.gcd_dvd_left _ _)
  have key : ∀ a b : Int, a.natAbs = n.natAbs → b.natAbs = d.natAbs → 0 < b → Low (a / (gg n d : Int), b / (gg n d : Int)) := fun a b ha hb hp => by
    have g1 : (gg n d : Int) ∣ b := Int.ofNat_dvd_left.mpr (by rw [hb]; exact Nat.gcd_dvd_right _ _)
    have g2 : (gg n d : Int) ∣ a := Int.ofNat_dvd_left.mpr (by rw [ha]; exact Nat.gcd_dvd_left _ _)
    refine ⟨?_, ?_⟩
    · have := Int.ediv_pos_of_pos_of_dvd hp (by omega) g1
      show 1 ≤ b / (gg n d : Int)
      omega
    · show Nat.gcd (a / (gg n d : Int)).natAbs (b / (gg n d : Int)).natAbs = 1
      rw [Int.natAbs_ediv_of_dvd g2, Int.natAbs_ediv_of_dvd g1, ha, hb, Int.natAbs_natCast]
      exact Nat.gcd_div_gcd_div_gcd_of_pos_right (Int.natAbs_pos.mpr h)
  unfold fr
  by_cases hd : d < 0
  · rw [if_pos hd, if_pos hd]
    exact key _ _ (Int.natAbs_neg n) (Int.natAbs_neg d) (by omega)
  · rw [if_neg hd, if_neg hd]
    exact key _ _ rfl rfl (by omega)
theorem low_fr {x : F2} (h : Low x) : fr x.1 x.2 = x := by
  have h1 := h.pos
  unfold fr
  rw [if_neg (by omega), if_neg (by omega)]
  have : gg x.1 x.2 = 1 := h.co
  rw [this]
  show (x.1 / 1, x.2 / 1) = x
  rw [Int.ediv_one, Int.ediv_one]
/-- the size: below 2 ^ k both -/
def Sz (k : Nat) (x : Int × Int) : Prop := x.1.natAbs < 2 ^ k ∧ x.2.natAbs < 2 ^ k
theorem div_small (a : Int) (g : Nat) : (a / (g : Int)).natAbs ≤ a.natAbs := Int.natAbs_ediv_le_natAbs a g
theorem fr_sz {k : Nat} {x : Int × Int} (h : Sz k x) : Sz k (frp x) := by
  have key : ∀ (c : Prop) [Decidable c] (a : Int) (g : Nat), ((if c then -a else a) / (g : Int)).natAbs ≤ a.natAbs := fun c _ a g => by
    split
    · exact Nat.le_trans (div_small _ _) (Nat.le_of_eq (Int.natAbs_neg a))
    · exact div_small _ _
  exact ⟨Nat.lt_of_le_of_lt (key _ _ _) h.1, Nat.lt_of_le_of_lt (key _ _ _) h.2⟩
theorem sz_mul {a b : Int} {j k : Nat} (ha : a.natAbs < 2 ^ j) (hb : b.natAbs < 2 ^ k) : (a * b).natAbs < 2 ^ (j + k) := wide_lt ha hb
theorem sz_add {a b : Int} {k : Nat} (ha : a.natAbs < 2 ^ k) (hb : b.natAbs < 2 ^ k) : (a + b).natAbs < 2 ^ (k + 1) := by
  have := Int.natAbs_add_le a b
  rw [Nat.pow_succ]
  omega
theorem sz_sub {a b : Int} {k : Nat} (ha : a.natAbs < 2 ^ k) (hb : b.natAbs < 2 ^ k) : (a - b).natAbs < 2 ^ (k + 1) := by
  have := sz_add ha (b := -b) (by rw [Int.natAbs_neg]; exact hb)
  rw [Int.sub_eq_add_neg]
  exact this
theorem sz_up {x : Int × Int} {j k : Nat} (h : Sz j x) (hl : j ≤ k) : Sz k x :=
  ⟨Nat.lt_of_lt_of_le h.1 (Nat.pow_le_pow_right (by decide) hl), Nat.lt_of_lt_of_le h.2 (Nat.pow_le_pow_right (by decide) hl)⟩
theorem n_up {a : Int} {j k : Nat} (h : a.natAbs < 2 ^ j) (hl : j ≤ k) : a.natAbs < 2 ^ k := Nat.lt_of_lt_of_le h (Nat.pow_le_pow_right (by decide) hl)
theorem add2_sz {a b : F2} {j k : Nat} (ha : Sz j a) (hb : Sz k b) : Sz (j + k + 1) (add2 a b) :=
  ⟨sz_add (sz_mul ha.1 hb.2) (by rw [Nat.add_comm j k]; exact sz_mul hb.1 ha.2), n_up (sz_mul ha.2 hb.2) (Nat.le_succ _)⟩
theorem sub2_sz {a b : F2} {j k : Nat} (ha : Sz j a) (hb : Sz k b) : Sz (j + k + 1) (sub2 a b) :=
  ⟨sz_sub (sz_mul ha.1 hb.2) (by rw [Nat.add_comm j k]; exact sz_mul hb.1 ha.2), n_up (sz_mul ha.2 hb.2) (Nat.le_succ _)⟩
theorem mul2_sz {a b : F2} {j k : Nat} (ha : Sz j a) (hb : Sz k b) : Sz (j + k + 1) (mul2 a b) := ⟨n_up (sz_mul ha.1 hb.1) (Nat.le_succ _), n_up (sz_mul ha.2 hb.2) (Nat.le_succ _)⟩
theorem div2_sz {a b : F2} {j k : Nat} (ha : Sz j a) (hb : Sz k b) : Sz (j + k + 1) (div2 a b) := ⟨n_up (sz_mul ha.1 hb.2) (Nat.le_succ _), n_up (sz_mul ha.2 hb.1) (Nat.le_succ _)⟩
/-- the sum of a row, from the left -/
def tot : List F2 → F2 → F2
  | [], t => t
  | x :: r, t => tot r (frp (add2 t x))
theorem gg_if (n d : Int) : (if d < 0 then -n else n).natAbs.gcd (if d < 0 then -d else d).natAbs = gg n d := by
  unfold gg
  split <;> simp
theorem low0 : Low (0, 1) := ⟨by decide, by decide⟩
theorem sz0 : Sz 1 (0, 1) := ⟨by decide, by decide⟩
theorem low_frp {x : Int × Int} (h : x.2 ≠ 0) : Low (frp x) := fr_low h
theorem add2_ne {a b : F2} (ha : Low a) (hb : Low b) : (add2 a b).2 ≠ 0 := by
  have h1 := ha.pos
  have h2 := hb.pos
  exact Int.ne_of_gt (Int.mul_pos (by omega) (by omega))
theorem tot_ok : ∀ (fs : List F2) (t : F2) {k : Nat}, Low t → Sz k t → (∀ x ∈ fs, Sz 100 x ∧ Low x) → Sz (k + 101 * fs.length) (tot fs t) ∧ Low (tot fs t)
  | [], t, k, h1, h2, _ => ⟨h2, h1⟩
  | x :: r, t, k, h1, h2, h3 => by
    obtain ⟨a, b⟩ := h3 x (List.mem_cons_self)
    have := tot_ok r (frp (add2 t x)) (k := k + 100 + 1) (low_frp (add2_ne h1 b)) (fr_sz (add2_sz h2 a)) (fun y hy => h3 y (List.mem_cons_of_mem _ hy))
    refine ⟨sz_up this.1 ?_, this.2⟩
    rw [List.length_cons]
    omega
theorem tot_snoc (x : F2) : ∀ (l : List F2) (t : F2), tot (l ++ [x]) t = frp (add2 (tot l t) x)
  | [], _ => rfl
  | y :: r, t => tot_snoc x r (frp (add2 t y))
theorem same_l {K : PySem.W.Frag} {H H' : Hp} {a : Addr} {xs : List V} (e : Same H H') (h : SqL K H a xs) : SqL K H' a xs := e.seq h
theorem same_t {K : PySem.W.Frag} {H H' : Hp} {a : Addr} {xs : List V} (e : Same H H') (h : SqT K H a xs) : SqT K H' a xs := by
  rcases h with (h | ⟨o, h⟩) | h
  · exact .inl (.inl (e _ _ h))
  · exact .inl (.inr ⟨o, e _ _ h⟩)
  · exact .inr h
theorem Paired.at {α β : Type} {R : α → β → Prop} : ∀ {xs : List α} {ys : List β} {i : Nat} {x : α}, Paired R xs ys → xs[i]? = some x → ∃ y, ys[i]? = some y ∧ R x y
  | _, _, _, _, .nil, e => by simp at e
  | _, _, 0, _, .cons r _, e => by
    have e : _ = _ := Option.some.inj e
    subst e
    exact ⟨_, rfl, r⟩
  | _, _, i + 1, x, .cons _ t, e => by
    obtain ⟨y, h1, h2⟩ := Paired.at (i := i) (x := x) t (by simpa using e)
    exact ⟨y, by simpa using h1, h2⟩
def dF (x : Int × Int) : PyData := .tuple [.int x.1, .int x.2]
def dFs (l : List (Int × Int)) : PyData := .list (l.map dF)
theorem dF_sh (x : Int × Int) : SeqAt.shaped (dF x) = true := rfl
theorem dFs_lay : ∀ l : List (Int × Int), PyData.canLayAll0 (l.map dF) = true
  | [] => rfl
  | x :: r => by
    show (PyData.canLay0 (dF x) && PyData.canLayAll0 (r.map dF)) = true
    rw [dFs_lay r]
    rfl
theorem dFs_dep : ∀ l : List (Int × Int), PyData.depthAll (l.map dF) ≤ 1
  | [] => Nat.zero_le _
  | x :: r => by
    show max (PyData.depth (dF x)) (PyData.depthAll (r.map dF)) ≤ 1
    have := dFs_dep r
    have e : PyData.depth (dF x) = 1 := rfl
    omega
theorem dFs_sh (l : List (Int × Int)) : SeqAt.shaped (dFs l) = true := by
  unfold SeqAt.shaped
  rw [Bool.and_eq_true]
  refine ⟨dFs_lay l, decide_eq_true ?_⟩
  show PyData.depthAll (l.map dF) + 1 ≤ 64
  have := dFs_dep l
  omega
theorem dFs_eqv (l : List (Int × Int)) : PyData.eqv (dFs l) (dFs l) = true := SeqAt.eqv_refl _ (dFs_lay l)
theorem dF_eqv (x : Int × Int) : PyData.eqv (dF x) (dF x) = true := SeqAt.eqv_refl _ rfl
theorem frv {n d : Int} (h : d ≠ 0) : (fr n d).1 * d = n * (fr n d).2 := by
  have g0 : (gg n d : Int) ≠ 0 := by
    have := Nat.gcd_pos_of_pos_right n.natAbs (Int.natAbs_pos.mpr h)
    show ((Nat.gcd n.natAbs d.natAbs : Nat) : Int) ≠ 0
    omega
  obtain ⟨a, ha⟩ : (gg n d : Int) ∣ n := Int.ofNat_dvd_left.mpr (Nat.gcd_dvd_left _ _)
  obtain ⟨b, hb⟩ : (gg n d : Int) ∣ d := Int.ofNat_dvd_left.mpr (Nat.gcd_dvd_right _ _)
  show ((if d < 0 then -n else n) / (gg n d : Int)) * d = n * ((if d < 0 then -d else d) / (gg n d : Int))
  generalize (gg n d : Int) = g at *
  split
  · rw [show -n = g * -a by rw [ha]; grind, show -d = g * -b by rw [hb]; grind, Int.mul_ediv_cancel_left _ g0, Int.mul_ediv_cancel_left _ g0]
    subst ha hb
    grind
  · rw [show n / g = a by rw [ha, Int.mul_ediv_cancel_left _ g0], show d / g = b by rw [hb, Int.mul_ediv_cancel_left _ g0]]
    subst ha hb
    grind
theorem low_uniq {x y : F2} (hx : Low x) (hy : Low y) (e : x.1 * y.2 = y.1 * x.2) : x = y := by
  obtain ⟨a, b⟩ := x
  obtain ⟨c, d⟩ := y
  have b1 : 1 ≤ b := hx.pos
  have d1 : 1 ≤ d := hy.pos
  have e1 : a.natAbs * d.natAbs = c.natAbs * b.natAbs := by
    rw [← Int.natAbs_mul, ← Int.natAbs_mul]
    exact congrArg Int.natAbs e
  have h1 : b.natAbs ∣ d.natAbs := Nat.Coprime.dvd_of_dvd_mul_left (Nat.Coprime.symm hx.co) ⟨c.natAbs, by rw [e1, Nat.mul_comm]⟩
  have h2 : d.natAbs ∣ b.natAbs := Nat.Coprime.dvd_of_dvd_mul_left (Nat.Coprime.symm hy.co) ⟨a.natAbs, by rw [← e1, Nat.mul_comm]⟩
  have h3 := Nat.dvd_antisymm h1 h2
  have h4 : b = d := by omega
  subst h4
  have h5 : a = c := Int.eq_of_mul_eq_mul_right (by omega) (show a * b = c * b from e)
  rw [h5]
/-! ### promises -/
def tupV (x : Int × Int) : List V := [.int x.1, .int x.2]
def tupF (x : Int × Int) : HO := .tup (tupV x)
def spFrac : Sp := fun vs H Q _ => ∃ n d : Int, vs = [.int n, .int d] ∧ d ≠ 0 ∧ Sz 9000 (n, d) ∧ ∀ p, H p = none → Q (.ref p) (upd H p (tupF (fr n d)))
def spBin (K : PySem.W.Frag) (op : F2 → F2 → Int × Int) : Sp := fun vs H Q _ => ∃ (p q : Addr) (a b : F2), vs = [.ref p, .ref q] ∧ SqT K H p (tupV a) ∧ SqT K H q (tupV b) ∧ Sz 4400 a ∧ Sz 4400 b ∧ (op a b).2 ≠ 0 ∧ ∀ r, H r = none → Q (.ref r) (upd H r (tupF (frp (op a b))))
def spIsInt : Sp := fun vs H Q _ => ∃ i : Int, vs = [.int i] ∧ Q (.bl true) H
def spIsInts (K : PySem.W.Frag) : Sp := fun vs H Q _ => ∃ (p : Addr) (ns : List Int), vs = [.ref p] ∧ H p = some (.tup (ns.map V.int)) ∧ ns.length ≤ 100 ∧ ∀ H', Same H H' → Q (.bl true) H'
def spIsFrac (K : PySem.W.Frag) : Sp := fun vs H Q _ => ∃ (p : Addr) (x : F2), vs = [.ref p] ∧ H p = some (tupF x) ∧ Low x ∧ Sz 9000 x ∧ ∀ H', Same H H' → Q (.bl true) H'
def spLaw (K : PySem.W.Frag) : Sp := fun vs H Q _ => ∃ (a : Addr) (ns : List Int), vs = [.ref a] ∧ SqL K H a (ns.map V.int) ∧ ns.length ≤ 63 ∧ ∀ H', Q (.bl true) H'
theorem dp_F {K : PySem.W.Frag} {H : Hp} {p : Addr} {x : Int × Int} (h : SqT K H p (tupV x)) : Dp K H (.ref p) (dF x) := .tup h (.cons (.int _) (.cons (.int _) .nil))
theorem all_true {α : Type} (l : List α) : (l.map fun _ => true).all id = true := by
  rw [List.all_map]
  exact List.all_eq_true.mpr fun _ _ => rfl
def NT (o : HO) : Prop := (∀ xs, o ≠ .tup xs) ∧ ∀ ob u, o ≠ .frz ob u
theorem nt_lst (l : List V) : NT (.lst l) := ⟨fun _ e => (nomatch e), fun _ _ e => (nomatch e)⟩
theorem nt_dk (l : List (Key × V)) : NT (.dK l) := ⟨fun _ e => (nomatch e), fun _ _ e => (nomatch e)⟩
theorem DrawAt.upd {S D L : Addr} {H : Hp} {o : HO} (d : DrawAt S D H) (n1 : L ≠ D) (n2 : L ≠ S) : DrawAt S D (upd H L o) := by
  obtain ⟨cs, h1⟩ := d.cells
  obtain ⟨i, r, c, h0, h2⟩ := d.at_
  exact ⟨d.ne, ⟨cs, by rw [upd_ne n2.symm]; exact h1⟩, ⟨i, r, c, h0, by rw [upd_ne n1.symm]; exact h2⟩⟩
/-- the draws, and one thing F that may change -/
structure StF (S D F : Addr) (H : Hp) : Prop where
  dr : DrawAt S D H
  nS : F ≠ S
  fl : ∃ o, H F = some o ∧ NT o
def GoL (S D F : Addr) (H H' : Hp) : Prop := StF S D F H' ∧ ∀ b o, H b = some o → b ≠ D → b ≠ F → H' b = some o
section
variable {S D F L p : Addr} {H H1 H2 H' : Hp} {o : HO} {K : PySem.W.Frag}
theorem StF.of_draw (d : DrawAt S D H) : StF S D D H := ⟨d, d.ne.symm, let ⟨_, _, _, _, h⟩ := d.at_; ⟨_, h, nt_lst _⟩⟩
theorem StF.free (st : StF S D F H) (h : H p = none) : p ≠ D ∧ p ≠ S ∧ p ≠ F := by
  obtain ⟨o, hF, _⟩ := st.fl
  exact ⟨(st.dr.free h).1, (st.dr.free h).2, (ne_of_none hF h).symm⟩
theorem GoL.refl (st : StF S D F H) : GoL S D F H H := ⟨st, fun _ _ h _ _ => h⟩
theorem GoL.trans (a : GoL S D F H H1) (b : GoL S D F H1 H2) : GoL S D F H H2 := ⟨b.1, fun x o h n m => b.2 x o (a.2 x o h n m) n m⟩
theorem GoL.of_go (st : StF S D F H) (g : Go S D H H') : GoL S D F H H' := by
  refine ⟨⟨g.1, st.nS, ?_⟩, fun b o h n _ => g.2 b o h n⟩
  obtain ⟨o, hF, nt⟩ := st.fl
  by_cases e : F = D
  · rw [e]
    obtain ⟨_, _, _, _, h⟩ := g.1.at_
    exact ⟨_, h, nt_lst _⟩
  · exact ⟨o, g.2 F _ hF e, nt⟩
theorem GoL.to_go (g : GoL S D D H H') : Go S D H H' := ⟨g.1.dr, fun b o h n => g.2 b o h n n⟩
theorem GoL.mut (st : StF S D F H) (g : GoL S D F H H') (h : H L = none) : GoL S D F H (upd H' L o) := by
  obtain ⟨n1, n2, n3⟩ := st.free h
  obtain ⟨u, hF, nt⟩ := g.1.fl
  exact ⟨⟨g.1.dr.upd n1 n2, st.nS, ⟨u, by rw [upd_ne n3.symm]; exact hF, nt⟩⟩, fun b v hb m1 m2 => by
    rw [upd_ne (ne_of_none hb h)]
    exact g.2 b v hb m1 m2⟩
theorem GoL.new (st : StF S D F H) (h : H p = none) : GoL S D F H (upd H p o) := GoL.mut st (GoL.refl st) h
theorem GoL.setF (nD : F ≠ D) (nt : NT o) (g : GoL S D F H H') : GoL S D F H (upd H' F o) :=
  ⟨⟨g.1.dr.upd nD g.1.nS, g.1.nS, ⟨o, upd_same, nt⟩⟩, fun b v hb m1 m2 => by
    rw [upd_ne m2]
    exact g.2 b v hb m1 m2⟩
theorem GoL.back (st : StF S D F H) (g : GoL S D F H H') (h : H' p = none) : H p = none := by
  cases q : H p with
  | none => rfl
  | some u =>
    obtain ⟨n1, n2, n3⟩ := g.1.free h
    rw [g.2 p u q n1 n3] at h
    cases h
theorem nt_not {xs : List V} (nt : NT o) (h : H p = some o) (r : Rd H L (.tup xs)) : L ≠ p := fun e => by
  subst e
  rcases r with r | ⟨ob, r⟩
  · rw [h] at r
    exact nt.1 _ (Option.some.inj r)
  · rw [h] at r
    exact nt.2 _ _ (Option.some.inj r)
theorem GoL.keepT (st : StF S D F H) (g : GoL S D F H H') : KeepT H H' := fun p xs r => by
  obtain ⟨_, _, _, _, hD⟩ := st.dr.at_
  obtain ⟨o, hF, nt⟩ := st.fl
  have n1 := nt_not (nt_lst _) hD r
  have n2 := nt_not nt hF r
  rcases r with r | ⟨o, r⟩
  · exact .inl (g.2 _ _ r n1 n2)
  · exact .inr ⟨o, g.2 _ _ r n1 n2⟩
theorem Go.keepT (d : DrawAt S D H) (g : Go S D H H') : KeepT H H' := GoL.keepT (StF.of_draw d) (GoL.of_go (StF.of_draw d) g)
theorem keepT_nt {o2 : HO} (nt : NT o2) (h : H L = some o2) : KeepT H (upd H L o) := fun p xs r => by
  have n := nt_not nt h r
  rcases r with r | ⟨o, r⟩
  · exact .inl (by rw [upd_ne n]; exact r)
  · exact .inr ⟨o, by rw [upd_ne n]; exact r⟩
theorem noLs_of {α : Type} {f : α → PyData} (h : ∀ a, noL (f a) = true) (l : List α) : noLs (l.map f) = true := noLs_map f l fun a _ => h a
end
/-- a list that is being filled -/
structure BL (K : PySem.W.Frag) (S D F L : Addr) (H0 H : Hp) {α : Type} (f : α → PyData) (as : List α) : Prop where
  g : GoL S D F H0 H
  l : ∃ zs, H L = some (.lst zs) ∧ DpAll K H zs (as.map f)
section
variable {S D F L : Addr} {H0 H H1 : Hp} {K : PySem.W.Frag} {α : Type} {f : α → PyData} {as : List α}
theorem BL.nil (st : StF S D F H0) (h : H0 L = none) : BL K S D F L H0 (upd H0 L (.lst [])) f [] := ⟨GoL.new st h, [], upd_same, .nil⟩
theorem BL.go (st : StF S D F H0) (hL : H0 L = none) (hn : ∀ a, noL (f a) = true) (b : BL K S D F L H0 H f as) (g : GoL S D F H H1) : BL K S D F L H0 H1 f as := by
  obtain ⟨zs, h1, h2⟩ := b.l
  obtain ⟨n1, n2, n3⟩ := st.free hL
  exact ⟨b.g.trans g, zs, g.2 _ _ h1 n1 n3, dpA_keep (GoL.keepT b.g.1 g) _ _ (noLs_of hn as) h2⟩
theorem BL.add (st : StF S D F H0) (hL : H0 L = none) (hn : ∀ a, noL (f a) = true) {a : α} {x : V} {zs : List V} (g : GoL S D F H0 H) (h1 : H L = some (.lst zs)) (h2 : DpAll K H zs (as.map f)) (hx : Dp K H x (f a)) :
    BL K S D F L H0 (upd H L (.lst (zs ++ [x]))) f (as ++ [a]) := by
  have k := keepT_nt (o := .lst (zs ++ [x])) (nt_lst _) h1
  refine ⟨GoL.mut st g hL, zs ++ [x], upd_same, ?_⟩
  rw [List.map_append]
  exact dpA_snoc (dpA_keep k _ _ (noLs_of hn as) h2) (dp_keep k _ _ (hn a) hx)
theorem BL.len (b : BL K S D F L H0 H f as) : ∃ zs, H L = some (.lst zs) ∧ DpAll K H zs (as.map f) ∧ zs.length = as.length := by
  obtain ⟨zs, h1, h2⟩ := b.l
  exact ⟨zs, h1, h2, by have := dpA_len h2; rw [List.length_map] at this; exact this⟩
theorem GoL.drop {H' : Hp} (g : GoL S D F H H') (h : H F = none) : Go S D H H' := ⟨g.1.dr, fun b o hb n => g.2 b o hb n (ne_of_none hb h)⟩
end
theorem snoc_str (l : List Str) (z : Str) : l.map V.str ++ [V.str z] = (l ++ [z]).map V.str := by
  rw [List.map_append]
  rfl
theorem int_noL (p : Int) : noL (.int p) = true := rfl
theorem str_noL (p : Str) : noL (.str p) = true := rfl
/-! ### promises of the small draws -/
def spPop : Sp := fun vs H Q _ => ∃ (S D p : Addr) (xs : List V), vs = [.ref D, .ref p] ∧ DrawAt S D H ∧ p ≠ D ∧ H p = some (.lst xs) ∧ 0 < xs.length ∧ xs.length ≤ 1000 ∧ ∀ (H1 : Hp) (j : Nat) (x : V), Go S D H H1 → xs[j]? = some x → Q x (upd H1 p (.lst (xs.eraseIdx j)))
def spRare : Sp := fun vs H Q _ => ∃ (S D : Addr) (m : Int), vs = [.ref D, .int m] ∧ 0 < m ∧ m < 1000 ∧ DrawAt S D H ∧ ∀ H' b, Go S D H H' → Q (.bl b) H'
def spShuf (K : PySem.W.Frag) : Sp := fun vs H Q _ => ∃ (S D p : Addr) (xs : List V), vs = [.ref D, .ref p] ∧ DrawAt S D H ∧ SqL K H p xs ∧ xs.length ≤ 1000 ∧
  ∀ (H' : Hp) (q : Addr) (ys : List V), Go S D H H' → H q = none → H' q = some (.lst ys) → ys.length = xs.length → (∀ y ∈ ys, y ∈ xs) → Q (.ref q) H'
abbrev PA : Str := "a b2 sum left r k0 carry z9z full tail n m8 aa busy cnt p t4 even2 ab1 head u v2 w lowest high mid "
abbrev PB : Str := "s t e f g h i j k x y q7 deep turn gate l5 next1 o c0 d two zz1 near far9 last ring2 "
abbrev PC : Str := "aaaaaaa8 b c1 top2 net3 row col7 v"
def POOL : List Str := Txt.split (PA ++ PB ++ PC) " "
theorem pool_len : POOL.length = 60 := by decide +kernel
def spPool : Sp := fun vs H Q _ => vs = [] ∧ ∀ p, H p = none → Q (.ref p) (upd H p (.lst (POOL.map V.str)))
section
variable {P : Program} {w : World} {K : PySem.W.Frag} {mg : Str → Option Value} {base : Heap}
theorem ok__law_draw (T : Txt K mg) {f : Addr} {fd : FuncData} (F : FnP K "_law_draw" s__law_draw f fd) : FnOk P w K mg base CX0 1 f fd ["d", "many"] spDraw := by
  refine F.ok sc__law_draw (fun vs H Q E h => ?_) (fun cdv A outer s H vs Q E hr h => ?_)
  · obtain ⟨S, D, m, rfl, _⟩ := h
    rfl
  · obtain ⟨S, D, m, rfl, hm, d, q⟩ := h
    obtain ⟨cs, hS⟩ := id d.cells
    obtain ⟨i, r, c, h0, hD⟩ := id d.at_
    have hm0 : 0 < m := hm.1
    refine ⟨_, PSs.nox (pss_cons (ps_if (pt_cmpR op_gt (pe_ix ix_list (pv 0) pe_int (fun _ _ => rfl)) pe_int (nomark _)) (pss_cons (ps_set (i := 2) sc__law_draw.nd rfl (Or.inl rfl) (pe_ix ix_list (pv 0) pe_int (fun _ _ => rfl)))
      (pss_cons (ps_asg (pe_op op_fdivW (pv 2) (pv 1)) (pg_sub (pv 0) pe_int set_list))
      (pss_one (ps_ret (pe_op op_mod (pe_callTy call_int1 (by rfl) T.b_int (by decide +kernel) (pa_cons (pv 2) pa_nil)) (pv 1)))))) pss_nil)
      (pss_cons (ps_set (i := 3) sc__law_draw.nd rfl (Or.inl rfl) pe_int)
      (Evl.pss_cut (ps_if (pt_cmpR op_lt (pe_ix ix_list (pv 0) pe_int (fun _ _ => rfl)) (pe_callB call_len (by rfl) T.b_len (by decide +kernel) (pa_cons (pe_ix ix_list (pv 0) pe_int (fun _ _ => rfl)) pa_nil)) (nomark _)) (pss_cons (ps_set (i := 4) sc__law_draw.nd rfl (Or.inl rfl) (pe_ix ix_list (pe_ix ix_list (pv 0) pe_int (fun _ _ => rfl)) (pe_ix ix_list (pv 0) pe_int (fun _ _ => rfl)) (fun _ _ => rfl)))
      (pss_one (ps_set (i := 3) sc__law_draw.nd rfl (Or.inl rfl) (pe_op op_add (pe_op op_mul pe_int (pe_callB call_abs (by rfl) T.b_abs (by decide +kernel) (pa_cons (pv 4) pa_nil))) (pe_callTy call_int1 (by rfl) T.b_int (by decide +kernel) (pa_cons (pe_cmpR op_lt (pv 4) pe_int (nomark _)) pa_nil)))))) pss_nil)
      (pss_cons (ps_augS (pv 0) pe_int get_list pe_int ip_add set_list)
      (pss_cons (ps_if (pt_cmpR op_ge (pv 3) (pe_op op_mul pe_int (pe_op op_pow pe_int pe_int)) (nomark _)) (pss_cons (ps_set (i := 2) sc__law_draw.nd rfl (Or.inl rfl) (pe_op op_mod (pe_callTy call_int1 (by rfl) T.b_int (by decide +kernel) (pa_cons (pe_op op_fdivW (pv 3) pe_int) pa_nil)) (pe_op op_shl pe_int pe_int)))
      (pss_cons (ps_asg (pe_op op_fdivW (pv 2) (pv 1)) (pg_sub (pv 0) pe_int set_list))
      (pss_one (ps_ret (pe_op op_mod (pe_callTy call_int1 (by rfl) T.b_int (by decide +kernel) (pa_cons (pv 2) pa_nil)) (pv 1)))))) pss_nil)
      (pss_cons (ps_asg (pe_op op_mod (pe_callTy call_int1 (by rfl) T.b_int (by decide +kernel) (pa_cons (pe_op op_add (pe_op op_add (pe_op op_add (pe_op op_mul (pe_ix ix_list (pv 0) pe_int (fun _ _ => rfl)) pe_int) (pe_op op_mul (pe_op op_mod (pe_callTy call_int1 (by rfl) T.b_int (by decide +kernel) (pa_cons (pv 3) pa_nil)) pe_int) pe_int)) (pe_op op_mul (pe_ix ix_list (pv 0) pe_int (fun _ _ => rfl)) pe_int)) pe_int) pa_nil)) pe_int) (pg_sub (pv 0) pe_int set_list))
      (pss_one (ps_ret (pe_op op_mod (pe_callTy call_int1 (by rfl) T.b_int (by decide +kernel) (pa_cons (pe_op op_fdivW (pe_ix ix_list (pv 0) pe_int (fun _ _ => rfl)) pe_int) pa_nil)) (pv 1)))))))))), ?_⟩
    refine ⟨_, rfl, D, _, _, _, rfl, rfl, SqL.of hD, atI_nat (j := 2) rfl, _, _, rfl, rfl, _, rfl, ?_⟩
    refine ite2 (fun e => ?_) (fun e => ?_)
    · refine ⟨_, rfl, D, _, _, _, rfl, rfl, SqL.of hD, atI_nat (j := 2) rfl, ?_⟩
      refine ⟨_, rfl, _, rfl, _, _, rfl, rfl, hm, _, rfl, D, _, _, 2, rfl, rfl, hD, rfl, ?_⟩
      refine ⟨_, rfl, .inl ⟨_, rfl, _, rfl, _, _, rfl, rfl, hm0, ?_⟩⟩
      refine q _ _ (Int.emod_nonneg _ (by omega)) (Int.emod_lt_of_pos _ hm0) ⟨d.set h0, Keep.refl.set⟩
    · refine ⟨fun σ' H' => ∃ (z : Int) (x : Option V), σ' = [some (.ref D), some (.int m), none, some (.int z), x] ∧ H' = H, ?_, ?_⟩
      · refine ⟨_, rfl, D, _, _, _, rfl, rfl, SqL.of hD, atI_nat (j := 1) rfl, ?_⟩
        refine ⟨_, rfl, D, _, _, _, rfl, rfl, SqL.of hD, atI_nat (j := 0) rfl, _, _, rfl, .inl ⟨_, SqL.of hS, rfl⟩, _, _, rfl, rfl, _, rfl, ?_⟩
        refine ite2 (fun e1 => ?_) (fun e1 => ?_)
        · have e2 : i < ((cs.map V.int).length : Int) := of_decide_eq_true e1
          have e3 : i.toNat < (cs.map V.int).length := by omega
          have e4 : i.toNat < cs.length := by rw [List.length_map] at e3; exact e3
          have e5 : (cs.map V.int)[i.toNat]? = some (.int cs[i.toNat]) := by
            rw [List.getElem?_map, List.getElem?_eq_getElem e4]
            rfl
          have e6 : atI (cs.map V.int) i = some (.int cs[i.toNat]) := by
            have := atI_nat (xs := cs.map V.int) e5
            rw [show ((i.toNat : Nat) : Int) = i by omega] at this
            exact this
          refine ⟨_, rfl, D, _, _, _, rfl, rfl, SqL.of hD, atI_nat (j := 0) rfl, ?_⟩
          refine ⟨_, rfl, D, _, _, _, rfl, rfl, SqL.of hD, atI_nat (j := 1) rfl, ?_⟩
          refine ⟨S, _, _, _, rfl, rfl, SqL.of hS, e6, ?_⟩
          refine ⟨_, rfl, _, rfl, _, _, rfl, rfl, .inl ⟨by decide, by decide⟩, ?_⟩
          refine ⟨_, rfl, _, _, rfl, rfl, .inr ⟨_, rfl, _, _, rfl, rfl, ?_⟩⟩
          exact ⟨_, _, rfl, rfl⟩
        · exact ⟨_, _, rfl, rfl⟩
      · rintro σ' H' ⟨z, x, rfl, rfl⟩
        refine ⟨_, rfl, D, _, _, _, rfl, rfl, SqL.of hD, atI_nat (j := 1) rfl, ?_⟩
        refine ⟨_, _, rfl, rfl, D, _, _, 1, rfl, rfl, hD, rfl, ?_⟩
        have hD1 : (upd H' D (.lst [.ref S, .int (i + 1), .int r, .int c])) D = some (.lst [.ref S, .int (i + 1), .int r, .int c]) := upd_same
        have d1 : DrawAt S D (upd H' D (.lst [.ref S, .int (i + 1), .int r, .int c])) := d.set (by omega)
        refine ⟨_, rfl, _, _, rfl, rfl, ⟨by decide, by decide, by decide⟩, _, _, rfl, rfl, .inl ⟨by decide, by decide⟩, _, _, rfl, rfl, _, rfl, ?_⟩
        refine ite2 (fun e1 => ?_) (fun e1 => ?_)
        · refine ⟨_, rfl, _, _, rfl, rfl, ⟨by decide, by decide⟩, .inl ⟨_, rfl, _, _, rfl, rfl, ⟨by decide, by decide, by decide⟩, ?_⟩⟩
          refine ⟨_, _, rfl, rfl, ?_, ?_⟩
          · show (0 : Int) < 1 * 2 ^ (6000 : Int).toNat
            exact Int.mul_pos (by decide) (Int.pow_pos (by decide))
          · refine ⟨_, rfl, _, rfl, _, _, rfl, rfl, hm, _, rfl, D, _, _, 2, rfl, rfl, hD1, rfl, ?_⟩
            refine ⟨_, rfl, .inl ⟨_, rfl, _, rfl, _, _, rfl, rfl, hm0, ?_⟩⟩
            exact q _ _ (Int.emod_nonneg _ (by omega)) (Int.emod_lt_of_pos _ hm0) ⟨d1.set (by omega), Keep.refl.set.set⟩
        · refine ⟨_, rfl, D, _, _, _, rfl, rfl, SqL.of hD1, atI_nat (j := 3) rfl, _, _, rfl, rfl, .inr ⟨by decide, by decide⟩, ?_⟩
          refine ⟨_, rfl, .inl ⟨_, rfl, _, _, rfl, rfl, (by show (0 : Int) < 2147483629; decide), _, _, rfl, rfl, .inr ⟨by decide, by decide⟩, _, _, rfl, rfl, ?_⟩⟩
          refine ⟨_, rfl, D, _, _, _, rfl, rfl, SqL.of hD1, atI_nat (j := 1) rfl, _, _, rfl, rfl, .inr ⟨by decide, by decide⟩, _, _, rfl, rfl, _, _, rfl, rfl, .inl ⟨_, rfl, ?_⟩⟩
          refine ⟨_, _, rfl, rfl, (by show (0 : Int) < 2147483647; decide), _, rfl, D, _, _, 3, rfl, rfl, hD1, rfl, ?_⟩
          refine ⟨_, rfl, D, _, _, _, rfl, rfl, SqL.of upd_same, atI_nat (j := 3) rfl, _, _, rfl, rfl, ⟨by decide, by decide⟩, ?_⟩
          refine .inl ⟨_, rfl, _, rfl, _, _, rfl, rfl, hm0, ?_⟩
          exact q _ _ (Int.emod_nonneg _ (by omega)) (Int.emod_lt_of_pos _ hm0) ⟨d1.set (by omega), Keep.refl.set.set⟩
theorem ok__law_begin (T : Txt K mg) {f : Addr} {fd : FuncData} (F : FnP K "_law_begin" s__law_begin f fd) : FnOk P w K mg base CX0 1 f fd ["script"] (spBegin K) := by
  refine F.ok sc__law_begin (fun vs H Q E h => ?_) (fun cdv A outer s H vs Q E hr h => ?_)
  · obtain ⟨a, ns, rfl, _⟩ := h
    rfl
  · obtain ⟨a, ns, rfl, hS, hlen, q⟩ := h
    refine ⟨_, PSs.nox (pss_one (ps_ret (pe_lst (pa_cons (pe_lc (own := [("cell", 1)]) (g := (gName 1)) (tt := tYes) rfl sc__law_begin.nd (pi_list (pv 0)) (blkOk_by (N := N__law_begin) (sc := defScope s__law_begin) (by decide +kernel)) (fun _ _ _ _ _ => (pg_name (i := 1) sc__law_begin.nd rfl (Or.inl rfl))) (fun _ _ _ _ _ => pts_nil) (fun _ _ _ _ _ => (pe_callTy call_int1 (by rfl) T.b_int (by decide +kernel) (pa_cons (pv 1) pa_nil)))) (pa_cons pe_int (pa_cons pe_int (pa_cons pe_int pa_nil))))))), ?_⟩
    refine ⟨_, rfl, a, rfl, ⟨_, hS⟩, fun L hL => lc_list (xs := ns.map V.int) (fun i H' => H' = upd H L (.lst ((ns.take i).map V.int))) rfl (fun i H' _ e => ?_) ?_ ?_⟩
    · subst e
      exact (show Same H _ from fun b o h => by rw [upd_ne (ne_of_none h hL)]; exact h).seq hS
    · rintro i x H1 hi rfl
      obtain ⟨z, rfl, hz⟩ := getV hi
      refine ⟨rfl, _, rfl, .inl ⟨_, rfl, _, upd_same, ?_, ?_⟩⟩
      · rw [List.length_map, List.length_take]
        exact Nat.lt_of_le_of_lt (Nat.min_le_right _ _) (small1000 (by omega))
      · rw [upd_upd, take_map_succ (f := V.int) hz]
    · rintro H' rfl
      refine ⟨by show 4 ≤ sizeLine; decide, fun D hD => ?_⟩
      have nLD : D ≠ L := fun e => by
        rw [e, upd_same] at hD
        cases hD
      have hD0 : H D = none := by
        rw [upd_ne nLD] at hD
        exact hD
      refine q L D _ (fun b o h => ?_) hD0 ⟨fun e => nLD e.symm, ⟨ns, ?_⟩, ⟨0, 0, 7, by decide, upd_same⟩⟩
      · rw [upd_ne (ne_of_none h hD0), upd_ne (ne_of_none h hL)]
        exact h
      · rw [upd_ne (fun e => nLD e.symm), upd_same]
        rw [List.take_of_length_le (by rw [List.length_map]; exact Nat.le_refl _)]
theorem ok__law_pick (T : Txt K mg) (D__law_draw : Kept P w K mg base 1 "_law_draw" ["d", "many"] spDraw) {f : Addr} {fd : FuncData} (F : FnP K "_law_pick" s__law_pick f fd) : FnOk P w K mg base CX0 2 f fd ["d", "row"] (spPick K) := by
  refine F.ok sc__law_pick (fun vs H Q E h => ?_) (fun cdv A outer s H vs Q E hr h => ?_)
  · obtain ⟨S, D, r, xs, rfl, _⟩ := h
    rfl
  · obtain ⟨S, D, r, xs, rfl, d, hR, h0, h1, q⟩ := h
    refine ⟨_, PSs.nox (pss_one (ps_ret (pe_ix ix_seq (pv 1) (pe_d D__law_draw (hr.mono (by decide)) (by rfl) (pa_cons (pv 0) (pa_cons (pe_callB call_len (by rfl) T.b_len (by decide +kernel) (pa_cons (pv 1) pa_nil)) pa_nil))) (fun _ _ => rfl)))), ?_⟩
    refine ⟨r, rfl, _, rfl, _, rfl, r, xs.length, rfl, ?_, ?_⟩
    · rcases hR H (Go.refl d) with ⟨z, rfl, rfl⟩ | ⟨p, rfl, hp⟩ | ⟨p, rfl, hp⟩
      · refine ⟨?_, by simp [Str.length]⟩
        rw [List.length_map] at h1
        have : z.length = z.cps.toList.length := by simp [Str.length]
        rw [this]
        exact Nat.le_trans h1 (by decide)
      · exact .inl ⟨_, hp, rfl⟩
      · exact .inr ⟨_, hp, rfl⟩
    · refine ⟨S, D, _, rfl, divW_of (by omega) (by omega), d, fun H' v hv0 hv1 g => ?_⟩
      have hv : v.toNat < xs.length := by omega
      have e : ((v.toNat : Nat) : Int) = v := by omega
      have ex : xs[v.toNat]? = some xs[v.toNat] := List.getElem?_eq_getElem hv
      have ea : atI xs v = some xs[v.toNat] := by
        have := atI_nat (xs := xs) ex
        rw [e] at this
        exact this
      rcases hR H' g with ⟨z, rfl, rfl⟩ | ⟨p, rfl, hp⟩ | ⟨p, rfl, hp⟩
      · refine .inr (.inr ⟨z, v, z.cps.toList[v.toNat]'(by rw [List.length_map] at hv; exact hv), rfl, rfl, ?_, ?_, ?_⟩)
        · rw [List.length_map] at h1
          have : z.length = z.cps.toList.length := by simp [Str.length]
          rw [this]
          exact Nat.le_trans h1 (by decide)
        · have := atI_nat (xs := z.cps.toList) (List.getElem?_eq_getElem (show v.toNat < z.cps.toList.length by rw [List.length_map] at hv; exact hv))
          rw [e] at this
          exact this
        · refine q H' _ ?_ g
          exact List.mem_map_of_mem (List.getElem_mem _)
      · exact .inl ⟨p, xs, v, _, rfl, rfl, hp, ea, q H' _ (List.getElem_mem _) g⟩
      · exact .inr (.inl ⟨p, xs, v, _, rfl, rfl, hp, ea, q H' _ (List.getElem_mem _) g⟩)
theorem ok__law_pop (T : Txt K mg) (D__law_draw : Kept P w K mg base 1 "_law_draw" ["d", "many"] spDraw) {f : Addr} {fd : FuncData} (F : FnP K "_law_pop" s__law_pop f fd) : FnOk P w K mg base CX0 2 f fd ["d", "row"] spPop := by
  refine F.ok sc__law_pop (fun vs H Q E h => ?_) (fun cdv A outer s H vs Q E hr h => ?_)
  · obtain ⟨S, D, p, xs, rfl, _⟩ := h
    rfl
  · obtain ⟨S, D, p, xs, rfl, d, nD, hp, h0, h1, q⟩ := h
    refine ⟨_, PSs.nox (pss_one (ps_ret (pe_bm PySem.F.plainAttrs_list PySem.F.slot_list_pop PySem.F.type_list_pop mt_popAt (pv 1) (pa_cons (pe_d D__law_draw (hr.mono (by decide)) (by rfl) (pa_cons (pv 0) (pa_cons (pe_callB call_len (by rfl) T.b_len (by decide +kernel) (pa_cons (pv 1) pa_nil)) pa_nil))) pa_nil)))), ?_⟩
    refine ⟨_, rfl, .inl ⟨rfl, _, SqL.of hp⟩, _, rfl, _, rfl, _, _, rfl, .inl ⟨_, SqL.of hp, rfl⟩, S, D, _, rfl, divW_of (by omega) (by omega), d, fun H1 v v0 v1 g => ?_⟩
    have hv : v.toNat < xs.length := by omega
    have ex : xs[v.toNat]? = some xs[v.toNat] := List.getElem?_eq_getElem hv
    refine ⟨p, xs, v, v.toNat, _, rfl, rfl, g.2 _ _ hp nD, by omega, by omega, ?_, ex, q H1 _ _ g ex⟩
    exact seqIndex_of v0 (by omega)
theorem ok__law_rare (T : Txt K mg) (D__law_draw : Kept P w K mg base 1 "_law_draw" ["d", "many"] spDraw) {f : Addr} {fd : FuncData} (F : FnP K "_law_rare" s__law_rare f fd) : FnOk P w K mg base CX0 2 f fd ["d", "many"] spRare := by
  refine F.ok sc__law_rare (fun vs H Q E h => ?_) (fun cdv A outer s H vs Q E hr h => ?_)
  · obtain ⟨S, D, m, rfl, _⟩ := h
    rfl
  · obtain ⟨S, D, m, rfl, m0, m1, d, q⟩ := h
    refine ⟨_, PSs.nox (pss_one (ps_ret (pe_cmpR op_eq (pe_d D__law_draw (hr.mono (by decide)) (by rfl) (pa_cons (pv 0) (pa_cons (pv 1) pa_nil))) (pe_op op_fdivW (pv 1) pe_int) (nomark _)))), ?_⟩
    exact ⟨_, rfl, _, rfl, S, D, m, rfl, divW_of m0 (by omega), d, fun H1 v _ _ g => ⟨_, rfl, _, _, rfl, rfl, ⟨by decide, by decide⟩, rfl, q H1 _ g⟩⟩
theorem ok__law_pool (T : Txt K mg) {f : Addr} {fd : FuncData} (F : FnP K "_law_pool" s__law_pool f fd) : FnOk P w K mg base CX0 1 f fd [] spPool := by
  refine F.ok sc__law_pool (fun vs H Q E h => ?_) (fun cdv A outer s H vs Q E hr h => ?_)
  · obtain ⟨rfl, _⟩ := h
    rfl
  · obtain ⟨rfl, q⟩ := h
    refine ⟨_, PSs.nox (pss_cons (ps_set (i := 0) sc__law_pool.nd rfl (Or.inl rfl) pe_str)
      (pss_cons (ps_set (i := 0) sc__law_pool.nd rfl (Or.inl rfl) (pe_op op_add_str (pv 0) pe_str))
      (pss_one (ps_ret (pe_split (pe_op op_add_str (pv 0) pe_str) pe_str))))), ?_⟩
    exact ⟨_, rfl, _, _, rfl, rfl, by decide +kernel, _, rfl, _, _, rfl, rfl, by decide +kernel, ⟨_, rfl⟩, _, _, rfl, rfl, by decide +kernel, by decide +kernel, fun p hp => q p hp⟩
theorem ok_make_fraction (T : Txt K mg) {f : Addr} {fd : FuncData} (F : FnP K "make_fraction" s_make_fraction f fd) : FnOk P w K mg base CX0 1 f fd ["n", "d"] spFrac := by
  refine F.ok sc_make_fraction (fun vs H Q E h => ?_) (fun cdv A outer s H vs Q E hr h => ?_)
  · obtain ⟨n, d, rfl, _⟩ := h
    rfl
  · obtain ⟨n, d, rfl, hd, hz, q⟩ := h
    refine ⟨_, PSs.nox (Evl.pss_cut (ps_if (pt_cmpR op_lt (pv 1) pe_int (nomark _)) (pss_one (ps_par (i := 0) (j := 1) (by rfl) sc_make_fraction.nd rfl rfl (by decide) rfl rfl (pa_cons (pe_un un_neg (pv 0)) (pa_cons (pe_un un_neg (pv 1)) pa_nil)) (by rfl))) pss_nil)
      (pss_cons (ps_set (i := 2) sc_make_fraction.nd rfl (Or.inl rfl) (pe_callBfun cr_gcd (by rfl) T.f_gcd (pa_cons (pv 0) (pa_cons (pv 1) pa_nil))))
      (pss_one (ps_ret (pe_tup (pa_cons (pe_op op_fdivW (pv 0) (pv 2)) (pa_cons (pe_op op_fdivW (pv 1) (pv 2)) pa_nil))))))), ?_⟩
    have g0 := gg_pos (n := n) hd
    have gl := gg_le (n := n) hd
    have cw : CDivW 0 (gg n d : Int) := wide_div (b := 9000) (by omega) (Nat.lt_of_le_of_lt (by rw [Int.natAbs_natCast]; exact gl) hz.2) (by decide) (by decide)
    refine ⟨fun σ H' => σ = [some (.int (if d < 0 then -n else n)), some (.int (if d < 0 then -d else d)), none] ∧ H' = H, ?_, ?_⟩
    · refine ⟨_, rfl, _, _, rfl, rfl, _, rfl, ?_⟩
      refine ite2 (fun e => ?_) (fun e => ?_)
      · have e1 : d < 0 := of_decide_eq_true e
        rw [if_pos e1, if_pos e1]
        exact ⟨_, rfl, _, rfl, _, rfl, _, rfl, _, _, rfl, rfl, rfl⟩
      · have e1 : ¬ d < 0 := fun z => e (decide_eq_true z)
        rw [if_neg e1, if_neg e1]
        exact ⟨rfl, rfl⟩
    · rintro σ H' ⟨rfl, rfl⟩
      refine ⟨_, rfl, _, rfl, _, _, rfl, ?_⟩
      rw [gg_if]
      refine ⟨_, rfl, _, rfl, _, _, rfl, rfl, cw, _, rfl, _, rfl, _, _, rfl, rfl, cw, by show 2 ≤ sizeLine; decide, fun p hp => ?_⟩
      exact q p hp
theorem ok__law_frac (T : Txt K mg) {f : Addr} {fd : FuncData} (F : FnP K "_law_frac" s__law_frac f fd) : FnOk P w K mg base CX0 1 f fd ["n", "d"] spFrac := by
  refine F.ok sc__law_frac (fun vs H Q E h => ?_) (fun cdv A outer s H vs Q E hr h => ?_)
  · obtain ⟨n, d, rfl, _⟩ := h
    rfl
  · obtain ⟨n, d, rfl, hd, hz, q⟩ := h
    refine ⟨_, PSs.nox (Evl.pss_cut (ps_if (pt_cmpR op_lt (pv 1) pe_int (nomark _)) (pss_cons (ps_set (i := 0) sc__law_frac.nd rfl (Or.inl rfl) (pe_un un_neg (pv 0)))
      (pss_one (ps_set (i := 1) sc__law_frac.nd rfl (Or.inl rfl) (pe_un un_neg (pv 1))))) pss_nil)
      (pss_cons (ps_set (i := 2) sc__law_frac.nd rfl (Or.inl rfl) (pe_callB call_abs (by rfl) T.b_abs (by decide +kernel) (pa_cons (pv 0) pa_nil)))
      (pss_cons (ps_set (i := 3) sc__law_frac.nd rfl (Or.inl rfl) (pv 1))
      (pss_cons (ps_while PassesOwn.never (pt_cmpR op_gt (pv 3) pe_int (nomark _)) (pss_cons (ps_set (i := 4) sc__law_frac.nd rfl (Or.inl rfl) (pe_op op_mod (pe_callTy call_int1 (by rfl) T.b_int (by decide +kernel) (pa_cons (pv 2) pa_nil)) (pv 3)))
      (pss_cons (ps_set (i := 2) sc__law_frac.nd rfl (Or.inl rfl) (pv 3))
      (pss_one (ps_set (i := 3) sc__law_frac.nd rfl (Or.inl rfl) (pv 4))))))
      (pss_one (ps_ret (pe_tup (pa_cons (pe_op op_fdivW (pv 0) (pv 2)) (pa_cons (pe_op op_fdivW (pv 1) (pv 2)) pa_nil))))))))), ?_⟩
    have g0 := gg_pos (n := n) hd
    have gl := gg_le (n := n) hd
    have cw : CDivW 0 (gg n d : Int) := wide_div (b := 9000) (by omega) (Nat.lt_of_le_of_lt (by rw [Int.natAbs_natCast]; exact gl) hz.2) (by decide) (by decide)
    refine ⟨fun σ H' => σ = [some (.int (if d < 0 then -n else n)), some (.int (if d < 0 then -d else d)), none, none, none] ∧ H' = H, ?_, ?_⟩
    · refine ⟨_, rfl, _, _, rfl, rfl, _, rfl, ?_⟩
      refine ite2 (fun e => ?_) (fun e => ?_)
      · have e1 : d < 0 := of_decide_eq_true e
        rw [if_pos e1, if_pos e1]
        exact ⟨_, rfl, _, rfl, _, rfl, _, rfl, rfl, rfl⟩
      · have e1 : ¬ d < 0 := fun z => e (decide_eq_true z)
        rw [if_neg e1, if_neg e1]
        exact ⟨rfl, rfl⟩
    · rintro σ H' ⟨rfl, rfl⟩
      refine ⟨_, rfl, _, rfl, _, rfl, ?_⟩
      have ea : (if (if d < 0 then -n else n) < 0 then -(if d < 0 then -n else n) else (if d < 0 then -n else n)) = ((n.natAbs : Nat) : Int) := by
        split <;> split <;> omega
      have eb : (if d < 0 then -d else d) = ((d.natAbs : Nat) : Int) := by
        split <;> omega
      refine ⟨fun m σ' H1 => ∃ (x y : Nat) (r : Option V), σ' = [some (.int (if d < 0 then -n else n)), some (.int (if d < 0 then -d else d)), some (.int (x : Nat)), some (.int (y : Nat)), r] ∧ y = m ∧ Nat.gcd x y = gg n d ∧ H1 = H', ⟨_, n.natAbs, d.natAbs, none, ?_, rfl, rfl, rfl⟩, ?_⟩
      · rw [← ea, ← eb]
        rfl
      · rintro m σ' H1 ⟨x, y, r, rfl, rfl, hg, rfl⟩
        refine ⟨_, rfl, _, _, rfl, rfl, _, rfl, ?_⟩
        refine ite2 (fun e => ?_) (fun e => ?_)
        · have e1 : (0 : Int) < (y : Int) := of_decide_eq_true e
          have e2 : 0 < y := by omega
          refine ⟨fun σ2 H2 => ∃ r : Option V, σ2 = [some (.int (if d < 0 then -n else n)), some (.int (if d < 0 then -d else d)), some (.int (y : Nat)), some (.int ((x % y : Nat) : Int)), r] ∧ H2 = H1, ?_, ?_⟩
          · rintro σ2 H2 ⟨r, rfl, rfl⟩
            refine ⟨x % y, Nat.mod_lt _ e2, y, x % y, r, rfl, rfl, ?_, rfl⟩
            rw [← hg, Nat.gcd_comm x y, Nat.gcd_rec y x, Nat.gcd_comm]
          · exact ⟨_, rfl, .inl ⟨_, rfl, _, rfl, _, _, rfl, rfl, e1, _, rfl, _, rfl, _, rfl, rfl⟩⟩
        · have e1 : ¬ (0 : Int) < (y : Int) := fun z => e (decide_eq_true z)
          have e2 : y = 0 := by omega
          subst e2
          have e3 : x = gg n d := by rw [← hg, Nat.gcd_zero_right]
          subst e3
          exact ⟨_, rfl, _, rfl, _, _, rfl, rfl, cw, _, rfl, _, rfl, _, _, rfl, rfl, cw, by show 2 ≤ sizeLine; decide, fun p hp => q p hp⟩
theorem ok_sum_of (T : Txt K mg) (D_make_fraction : Kept P w K mg base 1 "make_fraction" ["n", "d"] spFrac) {f : Addr} {fd : FuncData} (F : FnP K "sum_of" s_sum_of f fd) : FnOk P w K mg base CX0 2 f fd ["a", "b"] (spBin K add2) := by
  refine F.ok sc_sum_of (fun vs H Q E h => ?_) (fun cdv A outer s H vs Q E hr h => ?_)
  · obtain ⟨p, p2, a, b, rfl, _⟩ := h
    rfl
  · obtain ⟨p, p2, a, b, rfl, hp, hp2, za, zb, hne, q⟩ := h
    refine ⟨_, PSs.nox (pss_one (ps_ret (pe_d D_make_fraction (hr.mono (by decide)) (by rfl) (pa_cons (pe_op op_add (pe_op op_mulW (pe_ix ix_tup (pv 0) pe_int (fun _ _ => rfl)) (pe_ix ix_tup (pv 1) pe_int (fun _ _ => rfl))) (pe_op op_mulW (pe_ix ix_tup (pv 1) pe_int (fun _ _ => rfl)) (pe_ix ix_tup (pv 0) pe_int (fun _ _ => rfl)))) (pa_cons (pe_op op_mulW (pe_ix ix_tup (pv 0) pe_int (fun _ _ => rfl)) (pe_ix ix_tup (pv 1) pe_int (fun _ _ => rfl))) pa_nil))))), ?_⟩
    exact ⟨_, rfl, p, _, _, _, rfl, rfl, hp, atI_nat (j := 0) rfl, _, rfl, p2, _, _, _, rfl, rfl, hp2, atI_nat (j := 1) rfl, _, _, rfl, rfl, wide_mul za.1 zb.2 (by decide) (by decide) (by decide), _, rfl, p2, _, _, _, rfl, rfl, hp2, atI_nat (j := 0) rfl, _, rfl, p, _, _, _, rfl, rfl, hp, atI_nat (j := 1) rfl, _, _, rfl, rfl, wide_mul zb.1 za.2 (by decide) (by decide) (by decide), _, _, rfl, rfl, _, rfl, p, _, _, _, rfl, rfl, hp, atI_nat (j := 1) rfl, _, rfl, p2, _, _, _, rfl, rfl, hp2, atI_nat (j := 1) rfl, _, _, rfl, rfl, wide_mul za.2 zb.2 (by decide) (by decide) (by decide), _, _, rfl, hne, sz_up (add2_sz za zb) (by decide), q⟩
theorem ok__law_plus (T : Txt K mg) (D__law_frac : Kept P w K mg base 1 "_law_frac" ["n", "d"] spFrac) {f : Addr} {fd : FuncData} (F : FnP K "_law_plus" s__law_plus f fd) : FnOk P w K mg base CX0 2 f fd ["a", "b"] (spBin K add2) := by
  refine F.ok sc__law_plus (fun vs H Q E h => ?_) (fun cdv A outer s H vs Q E hr h => ?_)
  · obtain ⟨p, p2, a, b, rfl, _⟩ := h
    rfl
  · obtain ⟨p, p2, a, b, rfl, hp, hp2, za, zb, hne, q⟩ := h
    refine ⟨_, PSs.nox (pss_one (ps_ret (pe_d D__law_frac (hr.mono (by decide)) (by rfl) (pa_cons (pe_op op_add (pe_op op_mulW (pe_ix ix_tup (pv 0) pe_int (fun _ _ => rfl)) (pe_ix ix_tup (pv 1) pe_int (fun _ _ => rfl))) (pe_op op_mulW (pe_ix ix_tup (pv 1) pe_int (fun _ _ => rfl)) (pe_ix ix_tup (pv 0) pe_int (fun _ _ => rfl)))) (pa_cons (pe_op op_mulW (pe_ix ix_tup (pv 0) pe_int (fun _ _ => rfl)) (pe_ix ix_tup (pv 1) pe_int (fun _ _ => rfl))) pa_nil))))), ?_⟩
    exact ⟨_, rfl, p, _, _, _, rfl, rfl, hp, atI_nat (j := 0) rfl, _, rfl, p2, _, _, _, rfl, rfl, hp2, atI_nat (j := 1) rfl, _, _, rfl, rfl, wide_mul za.1 zb.2 (by decide) (by decide) (by decide), _, rfl, p2, _, _, _, rfl, rfl, hp2, atI_nat (j := 0) rfl, _, rfl, p, _, _, _, rfl, rfl, hp, atI_nat (j := 1) rfl, _, _, rfl, rfl, wide_mul zb.1 za.2 (by decide) (by decide) (by decide), _, _, rfl, rfl, _, rfl, p, _, _, _, rfl, rfl, hp, atI_nat (j := 1) rfl, _, rfl, p2, _, _, _, rfl, rfl, hp2, atI_nat (j := 1) rfl, _, _, rfl, rfl, wide_mul za.2 zb.2 (by decide) (by decide) (by decide), _, _, rfl, hne, sz_up (add2_sz za zb) (by decide), q⟩
theorem ok__law_times (T : Txt K mg) (D__law_frac : Kept P w K mg base 1 "_law_frac" ["n", "d"] spFrac) {f : Addr} {fd : FuncData} (F : FnP K "_law_times" s__law_times f fd) : FnOk P w K mg base CX0 2 f fd ["a", "b"] (spBin K mul2) := by
  refine F.ok sc__law_times (fun vs H Q E h => ?_) (fun cdv A outer s H vs Q E hr h => ?_)
  · obtain ⟨p, p2, a, b, rfl, _⟩ := h
    rfl
  · obtain ⟨p, p2, a, b, rfl, hp, hp2, za, zb, hne, q⟩ := h
    refine ⟨_, PSs.nox (pss_one (ps_ret (pe_d D__law_frac (hr.mono (by decide)) (by rfl) (pa_cons (pe_op op_mulW (pe_ix ix_tup (pv 0) pe_int (fun _ _ => rfl)) (pe_ix ix_tup (pv 1) pe_int (fun _ _ => rfl))) (pa_cons (pe_op op_mulW (pe_ix ix_tup (pv 0) pe_int (fun _ _ => rfl)) (pe_ix ix_tup (pv 1) pe_int (fun _ _ => rfl))) pa_nil))))), ?_⟩
    exact ⟨_, rfl, p, _, _, _, rfl, rfl, hp, atI_nat (j := 0) rfl, _, rfl, p2, _, _, _, rfl, rfl, hp2, atI_nat (j := 0) rfl, _, _, rfl, rfl, wide_mul za.1 zb.1 (by decide) (by decide) (by decide), _, rfl, p, _, _, _, rfl, rfl, hp, atI_nat (j := 1) rfl, _, rfl, p2, _, _, _, rfl, rfl, hp2, atI_nat (j := 1) rfl, _, _, rfl, rfl, wide_mul za.2 zb.2 (by decide) (by decide) (by decide), _, _, rfl, hne, sz_up (mul2_sz za zb) (by decide), q⟩
theorem ok__law_minus (T : Txt K mg) (D__law_frac : Kept P w K mg base 1 "_law_frac" ["n", "d"] spFrac) {f : Addr} {fd : FuncData} (F : FnP K "_law_minus" s__law_minus f fd) : FnOk P w K mg base CX0 2 f fd ["a", "b"] (spBin K sub2) := by
  refine F.ok sc__law_minus (fun vs H Q E h => ?_) (fun cdv A outer s H vs Q E hr h => ?_)
  · obtain ⟨p, p2, a, b, rfl, _⟩ := h
    rfl
  · obtain ⟨p, p2, a, b, rfl, hp, hp2, za, zb, hne, q⟩ := h
    refine ⟨_, PSs.nox (pss_one (ps_ret (pe_d D__law_frac (hr.mono (by decide)) (by rfl) (pa_cons (pe_op op_sub (pe_op op_mulW (pe_ix ix_tup (pv 0) pe_int (fun _ _ => rfl)) (pe_ix ix_tup (pv 1) pe_int (fun _ _ => rfl))) (pe_op op_mulW (pe_ix ix_tup (pv 1) pe_int (fun _ _ => rfl)) (pe_ix ix_tup (pv 0) pe_int (fun _ _ => rfl)))) (pa_cons (pe_op op_mulW (pe_ix ix_tup (pv 0) pe_int (fun _ _ => rfl)) (pe_ix ix_tup (pv 1) pe_int (fun _ _ => rfl))) pa_nil))))), ?_⟩
    exact ⟨_, rfl, p, _, _, _, rfl, rfl, hp, atI_nat (j := 0) rfl, _, rfl, p2, _, _, _, rfl, rfl, hp2, atI_nat (j := 1) rfl, _, _, rfl, rfl, wide_mul za.1 zb.2 (by decide) (by decide) (by decide), _, rfl, p2, _, _, _, rfl, rfl, hp2, atI_nat (j := 0) rfl, _, rfl, p, _, _, _, rfl, rfl, hp, atI_nat (j := 1) rfl, _, _, rfl, rfl, wide_mul zb.1 za.2 (by decide) (by decide) (by decide), _, _, rfl, rfl, _, rfl, p, _, _, _, rfl, rfl, hp, atI_nat (j := 1) rfl, _, rfl, p2, _, _, _, rfl, rfl, hp2, atI_nat (j := 1) rfl, _, _, rfl, rfl, wide_mul za.2 zb.2 (by decide) (by decide) (by decide), _, _, rfl, hne, sz_up (sub2_sz za zb) (by decide), q⟩
end
end Mt
namespace Mt
open PySem PySem.Spec PyProof.Rows L2
/-! ### fractions over one denominator -/
structure Fr (f : F2) (N : Int) (M : Nat) : Prop where
  low : Low f
  eq : f.1 * (M : Int) = N * f.2
  pos : 0 < M
theorem Fr.of {x : Int × Int} {N : Int} {M : Nat} (h : x.2 ≠ 0) (e : x.1 * (M : Int) = N * x.2) (hM : 0 < M) : Fr (frp x) N M := by
  have h1 := frv (n := x.1) h
  have l := low_frp h
  refine ⟨l, ?_, hM⟩
  have h2 : ((frp x).1 * (M : Int)) * x.2 = (N * (frp x).2) * x.2 := by
    have h3 : (frp x).1 * x.2 = x.1 * (frp x).2 := h1
    grind
  exact Int.eq_of_mul_eq_mul_right h h2
theorem Fr.add {a b : F2} {N1 N2 : Int} {M : Nat} (ha : Fr a N1 M) (hb : Fr b N2 M) : Fr (frp (add2 a b)) (N1 + N2) M := by
  refine Fr.of (add2_ne ha.low hb.low) ?_ ha.pos
  have h1 := ha.eq
  have h2 := hb.eq
  show (a.1 * b.2 + b.1 * a.2) * (M : Int) = (N1 + N2) * (a.2 * b.2)
  grind
theorem mul2_ne {a b : F2} (ha : Low a) (hb : Low b) : (mul2 a b).2 ≠ 0 := add2_ne ha hb
theorem Fr.mul {a b : F2} {N1 N2 : Int} {M1 M2 : Nat} (ha : Fr a N1 M1) (hb : Fr b N2 M2) : Fr (frp (mul2 a b)) (N1 * N2) (M1 * M2) := by
  refine Fr.of (mul2_ne ha.low hb.low) ?_ (Nat.mul_pos ha.pos hb.pos)
  have h1 := ha.eq
  have h2 := hb.eq
  show (a.1 * b.1) * ((M1 * M2 : Nat) : Int) = (N1 * N2) * (a.2 * b.2)
  rw [Int.natCast_mul]
  grind
theorem Fr.zero {M : Nat} (h : 0 < M) : Fr (0, 1) 0 M := ⟨low0, by simp, h⟩
theorem low1 : Low (1, 1) := ⟨by decide, by decide⟩
theorem Fr.one : Fr (1, 1) 1 1 := ⟨low1, rfl, Nat.one_pos⟩
theorem Fr.uniq {a b : F2} {N : Int} {M : Nat} (ha : Fr a N M) (hb : Fr b N M) : a = b := by
  refine low_uniq ha.low hb.low ?_
  have h1 := ha.eq
  have h2 := hb.eq
  have hM : (M : Int) ≠ 0 := by
    have := ha.pos
    omega
  refine Int.eq_of_mul_eq_mul_right hM ?_
  grind
theorem Fr.sz {a : F2} {N : Int} {M k : Nat} (h : Fr a N M) (hN : N.natAbs < 2 ^ k) (hM : M < 2 ^ k) : Sz k a := by
  have e : a.1.natAbs * M = N.natAbs * a.2.natAbs := by
    have := congrArg Int.natAbs h.eq
    rw [Int.natAbs_mul, Int.natAbs_mul, Int.natAbs_natCast] at this
    exact this
  have p := h.low.pos
  have h0 := h.pos
  have h1 : a.2.natAbs ∣ M := Nat.Coprime.dvd_of_dvd_mul_left (Nat.Coprime.symm h.low.co) ⟨N.natAbs, by rw [e, Nat.mul_comm]⟩
  have h2 := Nat.le_of_dvd h0 h1
  refine ⟨?_, by omega⟩
  have h3 : a.1.natAbs * M ≤ N.natAbs * M := by
    rw [e]
    exact Nat.mul_le_mul_left _ h2
  have h4 := Nat.le_of_mul_le_mul_right h3 h0
  omega
/-! ### webs -/
end Mt
namespace Mt
open PySem PySem.Spec PyProof.Rows L2
theorem ixL {X : Cx} {K : PySem.W.Frag} (h : X.K = K) : IxR X (rIxL K) := h ▸ ix_list
theorem tupOfT {X : Cx} {K : PySem.W.Frag} (h : X.K = K) : CallR X (.type "tuple") (fun xs H Q => ∃ p ys, xs = [.ref p] ∧ ((SqL K H p ys ∧ ∀ l, H l = none → Q (.ref l) (upd H l (.tup ys))) ∨ (SqT K H p ys ∧ Q (.ref p) H))) := h ▸ call_tuple_of
theorem catA {X : Cx} {K : PySem.W.Frag} (h : X.K = K) : OpR X (binaryOp .Add) (rCatA K) := h ▸ op_catA
theorem srtK {X : Cx} {K : PySem.W.Frag} (h : X.K = K) (hu : X.A.units + 64 < cLine) : CallR X (.builtin "sorted") (SR.rSrt K) := h ▸ SR.cr_srt hu
theorem goU {S D L : Addr} {H0 H : Hp} {o : HO} (L0 : H0 L = none) (d0 : DrawAt S D H0) (g : Go S D H0 H) : Go S D H0 (upd H L o) := by
  obtain ⟨LD, LS⟩ := d0.free L0
  obtain ⟨cs, hc⟩ := g.1.cells
  obtain ⟨j, r, c, j0, hD⟩ := g.1.at_
  refine ⟨⟨g.1.ne, ⟨cs, ?_⟩, ⟨j, r, c, j0, ?_⟩⟩, fun b o h n => ?_⟩
  · rw [upd_ne LS.symm]
    exact hc
  · rw [upd_ne LD.symm]
    exact hD
  · rw [upd_ne (ne_of_none h L0)]
    exact g.2 b o h n
theorem catA_mono {K : PySem.W.Frag} {x y : V} {H : Hp} {Q Q' : VK} (h : rCatA K x y H Q) (m : ∀ x H, Q x H → Q' x H) : rCatA K x y H Q' := by
  obtain ⟨a, b, xs, ys, e1, e2, h1, h2, h3, q0, q1, q2⟩ := h
  exact ⟨a, b, xs, ys, e1, e2, h1, h2, h3, fun e => m _ _ (q0 e), fun e1 e2 => m _ _ (q1 e1 e2), fun e1 e2 p hp => m _ _ (q2 e1 e2 p hp)⟩
/-! ### words and chains -/
def dI (l : List Int) : PyData := .tuple (l.map .int)
def dSh (ss : List Str) : PyData := .tuple (ss.map .str)
abbrev Br : Type := List Int × List Str × Nat
def dBr (b : Br) : PyData := .tuple [dI b.1, dSh b.2.1, .int b.2.2]
def dRw (r : List Br) : PyData := .tuple (r.map dBr)
abbrev Chn : Type := List (List Br)
def dChn (base : Int) (C : Chn) : PyData := .tuple [.str "chain", .int base, .tuple (C.map dRw)]
theorem dI_noL (l : List Int) : noL (dI l) = true := noLs_map _ _ fun _ _ => rfl
theorem dSh_noL (l : List Str) : noL (dSh l) = true := noLs_map _ _ fun _ _ => rfl
theorem dBr_noL (b : Br) : noL (dBr b) = true := by
  show (noL (dI b.1) && (noL (dSh b.2.1) && (true && true))) = true
  rw [dI_noL, dSh_noL]
  rfl
theorem dRw_noL (r : List Br) : noL (dRw r) = true := noLs_map _ _ fun b _ => dBr_noL b
theorem dChn_noL (base : Int) (C : Chn) : noL (dChn base C) = true := by
  show (true && (true && (noLs (C.map dRw) && true))) = true
  rw [noLs_map _ _ fun r _ => dRw_noL r]
  rfl
theorem noLs_I (ws : List (List Int)) : noLs (ws.map dI) = true := noLs_map _ _ fun w _ => dI_noL w
section
variable {K : PySem.W.Frag} {H H' : Hp} {v : V}
theorem dp_strs : ∀ {ss : List Str} {xs : List V}, DpAll K H xs (ss.map .str) → xs = ss.map V.str
  | [], _, h => dpA_nil h
  | s :: r, _, h => by
    obtain ⟨x, t, rfl, h1, h2⟩ := dpA_cons h
    rw [dp_str h1, dp_strs h2]
    rfl
theorem strs_dp : ∀ ss : List Str, DpAll K H (ss.map V.str) (ss.map .str)
  | [] => .nil
  | s :: r => .cons (.str s) (strs_dp r)
theorem dp_ints : ∀ {ss : List Int} {xs : List V}, DpAll K H xs (ss.map .int) → xs = ss.map V.int
  | [], _, h => dpA_nil h
  | s :: r, _, h => by
    obtain ⟨x, t, rfl, h1, h2⟩ := dpA_cons h
    rw [dp_int h1, dp_ints h2]
    rfl
theorem ints_dp : ∀ ss : List Int, DpAll K H (ss.map V.int) (ss.map .int)
  | [] => .nil
  | s :: r => .cons (.int s) (ints_dp r)
theorem sh_of {p : Addr} {ss : List Str} (h : SqT K H p (ss.map V.str)) : Dp K H (.ref p) (dSh ss) := .tup h (strs_dp ss)
theorem sh_at {ss : List Str} (h : Dp K H v (dSh ss)) : ∃ p, v = .ref p ∧ SqT K H p (ss.map V.str) := by
  obtain ⟨p, xs, rfl, h1, h2⟩ := dp_tup h
  rw [dp_strs h2] at h1
  exact ⟨p, rfl, h1⟩
theorem i_of {p : Addr} {ss : List Int} (h : SqT K H p (ss.map V.int)) : Dp K H (.ref p) (dI ss) := .tup h (ints_dp ss)
theorem i_at {ss : List Int} (h : Dp K H v (dI ss)) : ∃ p, v = .ref p ∧ SqT K H p (ss.map V.int) := by
  obtain ⟨p, xs, rfl, h1, h2⟩ := dp_tup h
  rw [dp_ints h2] at h1
  exact ⟨p, rfl, h1⟩
theorem br_at {b : Br} (h : Dp K H v (dBr b)) : ∃ p x0 x1, v = .ref p ∧ SqT K H p [x0, x1, .int b.2.2] ∧ Dp K H x0 (dI b.1) ∧ Dp K H x1 (dSh b.2.1) := by
  obtain ⟨p, xs, rfl, h1, hA⟩ := dp_tup h
  obtain ⟨x0, r0, rfl, h0, hA⟩ := dpA_cons hA
  obtain ⟨x1, r1, rfl, h2, hA⟩ := dpA_cons hA
  obtain ⟨x2, r2, rfl, h3, hA⟩ := dpA_cons hA
  cases dpA_nil hA
  rw [dp_int h3] at h1
  exact ⟨p, x0, x1, rfl, h1, h0, h2⟩
theorem chn_at {base : Int} {C : Chn} (h : Dp K H v (dChn base C)) : ∃ p q xs, v = .ref p ∧ SqT K H p [.str "chain", .int base, .ref q] ∧ SqT K H q xs ∧ DpAll K H xs (C.map dRw) := by
  obtain ⟨p, xs, rfl, h1, hA⟩ := dp_tup h
  obtain ⟨x0, r0, rfl, h0, hA⟩ := dpA_cons hA
  obtain ⟨x1, r1, rfl, h2, hA⟩ := dpA_cons hA
  obtain ⟨x2, r2, rfl, h3, hA⟩ := dpA_cons hA
  cases dpA_nil hA
  rw [dp_str h0, dp_int h2] at h1
  obtain ⟨q, ys, rfl, h4, h5⟩ := dp_tup h3
  exact ⟨p, q, ys, rfl, h1, h4, h5⟩
theorem dpA_get {α : Type} {f : α → PyData} {l : List α} {xs : List V} {i : Nat} {a : α} (h : DpAll K H xs (l.map f)) (e : l[i]? = some a) : ∃ x, xs[i]? = some x ∧ Dp K H x (f a) := by
  have hl := dpA_len h
  rw [List.length_map] at hl
  have hi : i < l.length := (List.getElem?_eq_some_iff.mp e).1
  obtain ⟨x, hx⟩ : ∃ x, xs[i]? = some x := ⟨xs[i]'(by omega), List.getElem?_eq_getElem _⟩
  obtain ⟨d, h1, h2⟩ := dpA_at h hx
  rw [List.getElem?_map, e] at h1
  obtain rfl : f a = d := Option.some.inj h1
  exact ⟨x, hx, h2⟩
theorem dpA_mem {α : Type} {f : α → PyData} {l : List α} {xs : List V} {i : Nat} {x : V} (h : DpAll K H xs (l.map f)) (e : xs[i]? = some x) : ∃ a, l[i]? = some a ∧ Dp K H x (f a) := by
  obtain ⟨d, h1, h2⟩ := dpA_at h e
  obtain ⟨a, h3, rfl⟩ := map_at h1
  exact ⟨a, h3, h2⟩
theorem dpA_app : ∀ {ds es : List PyData} {xs ys : List V}, DpAll K H xs ds → DpAll K H ys es → DpAll K H (xs ++ ys) (ds ++ es)
  | [], _, _, _, h, h' => by
    rw [dpA_nil h]
    exact h'
  | d :: ds, _, _, _, h, h' => by
    obtain ⟨x, r, rfl, h1, h2⟩ := dpA_cons h
    exact .cons h1 (dpA_app h2 h')
theorem dpA_erase : ∀ {ds : List PyData} {xs : List V} (i : Nat), DpAll K H xs ds → DpAll K H (xs.eraseIdx i) (ds.eraseIdx i)
  | [], _, _, h => by
    rw [dpA_nil h]
    exact .nil
  | d :: ds, _, 0, h => by
    obtain ⟨x, r, rfl, h1, h2⟩ := dpA_cons h
    exact h2
  | d :: ds, _, i + 1, h => by
    obtain ⟨x, r, rfl, h1, h2⟩ := dpA_cons h
    exact .cons h1 (dpA_erase i h2)
end
def NP (a b : List Int) : Prop := ¬ a <+: b ∧ ¬ b <+: a
theorem NP.symm {a b : List Int} (h : NP a b) : NP b a := ⟨h.2, h.1⟩
theorem erase_perm {α : Type} : ∀ {l : List α} {i : Nat} {z : α}, l[i]? = some z → (z :: l.eraseIdx i).Perm l
  | [], i, _, h => by simp at h
  | x :: r, 0, z, h => by
    have : x = z := Option.some.inj h
    subst this
    exact .refl _
  | x :: r, i + 1, z, h => by
    have h' : r[i]? = some z := by simpa using h
    exact (List.Perm.swap x z _).trans ((erase_perm h').cons x)
theorem np_erase {l : List (List Int)} {i : Nat} {w u : List Int} (p : l.Pairwise NP) (h : l[i]? = some w) (hu : u ∈ l.eraseIdx i) : NP w u := by
  have q := ((erase_perm h).pairwise_iff fun {_ _} => NP.symm).mpr p
  exact (List.pairwise_cons.mp q).1 u hu
theorem np_snoc {u w : List Int} {x : Int} (h : NP w u) : NP u (w ++ [x]) := by
  refine ⟨fun k => ?_, fun k => h.1 ((List.prefix_append w [x]).trans k)⟩
  obtain ⟨t, ht⟩ := k
  rcases List.eq_nil_or_concat t with e | ⟨t', y, e⟩
  · subst e
    rw [List.append_nil] at ht
    rw [ht] at h
    exact h.1 (List.prefix_append w [x])
  · subst e
    rw [List.concat_eq_append, ← List.append_assoc] at ht
    have := (List.append_inj' ht rfl).1
    exact h.2 ⟨t', this⟩
/-- every tape that is long enough begins with one of them -/
structure Cmpl (base : Int) (ws : List (List Int)) : Prop where
  all : ∀ t : List Int, (∀ x ∈ t, 0 ≤ x ∧ x < base) → 3 ≤ t.length → ∃ w ∈ ws, w <+: t
  short : ∀ w ∈ ws, w.length ≤ 3
  one : ws = [[]] ∨ ∀ w ∈ ws, w ≠ []
  pf : ws.Pairwise NP
theorem Cmpl.start (base : Int) : Cmpl base [[]] := ⟨fun t _ _ => ⟨[], List.mem_singleton.mpr rfl, List.nil_prefix⟩, fun w h => by rw [List.mem_singleton.mp h]; exact Nat.zero_le _, .inl rfl, List.pairwise_singleton _ _⟩
def digits (base : Int) : List Int := (List.range base.toNat).map fun k : Nat => (0 : Int) + (k : Int)
theorem Cmpl.open {base : Int} {ws : List (List Int)} {i : Nat} {w : List Int} (c : Cmpl base ws) (hi : ws[i]? = some w) (hw : w.length < 3) : Cmpl base (ws.eraseIdx i ++ (digits base).map fun x => w ++ [x]) := by
  refine ⟨fun t ht hl => ?_, fun u hu => ?_, .inr fun u hu => ?_, ?_⟩
  · obtain ⟨u, hu, hp⟩ := c.all t ht hl
    by_cases e : u = w
    · subst e
      obtain ⟨r, rfl⟩ := hp
      cases r with
      | nil =>
        rw [List.append_nil] at hl
        omega
      | cons x r =>
        obtain ⟨h1, h2⟩ := ht x (List.mem_append.mpr (.inr List.mem_cons_self))
        refine ⟨u ++ [x], List.mem_append.mpr (.inr (List.mem_map.mpr ⟨x, List.mem_map.mpr ⟨x.toNat, List.mem_range.mpr (by omega), by omega⟩, rfl⟩)), ⟨r, by simp⟩⟩
    · refine ⟨u, List.mem_append.mpr (.inl ?_), hp⟩
      obtain ⟨j, hj⟩ := List.mem_iff_getElem?.mp hu
      have hji : j ≠ i := fun z => e (by rw [z, hi] at hj; exact (Option.some.inj hj).symm)
      rw [List.mem_eraseIdx_iff_getElem?]
      exact ⟨j, hji, hj⟩
  · rcases List.mem_append.mp hu with h | h
    · exact c.short u (List.mem_of_mem_eraseIdx h)
    · obtain ⟨x, _, rfl⟩ := List.mem_map.mp h
      rw [List.length_append, List.length_singleton]
      omega
  · rcases List.mem_append.mp hu with h | h
    · rcases c.one with e | e
      · rw [e] at h hi
        cases i with
        | zero => cases h
        | succ i => cases hi
      · exact e u (List.mem_of_mem_eraseIdx h)
    · obtain ⟨x, _, rfl⟩ := List.mem_map.mp h
      simp
  · refine List.pairwise_append.mpr ⟨c.pf.sublist (List.eraseIdx_sublist _ _), ?_, fun u hu v hv => ?_⟩
    · unfold digits
      rw [List.map_map, List.pairwise_map]
      refine (List.nodup_range (n := base.toNat)).imp fun {a b} hab => ?_
      have key : ∀ a b : Nat, a ≠ b → ¬ (w ++ [(0 : Int) + (a : Int)]) <+: (w ++ [(0 : Int) + (b : Int)]) := fun a b h k => by
        have e := k.eq_of_length (by rw [List.length_append, List.length_append]; rfl)
        have := (List.append_inj' e rfl).2
        have : (0 : Int) + (a : Int) = 0 + (b : Int) := (List.cons.inj this).1
        omega
      exact ⟨key a b hab, key b a hab.symm⟩
    · obtain ⟨x, _, rfl⟩ := List.mem_map.mp hv
      exact np_snoc (np_erase c.pf hi hu)
end Mt
namespace Mt
open PySem PySem.Spec PyProof.Rows L2
def spWords (K : PySem.W.Frag) : Sp := fun vs H Q _ => ∃ (S D : Addr) (base many : Int), vs = [.ref D, .int base, .int many] ∧ DrawAt S D H ∧ 2 ≤ base ∧ base ≤ 6 ∧ 0 ≤ many ∧ many ≤ 2 ∧
  ∀ (H' : Hp) (L : Addr) (xs : List V) (ws : List (List Int)), Go S D H H' → H L = none → H' L = some (.lst xs) → DpAll K H' xs (ws.map dI) → Cmpl base ws → 0 < ws.length → ws.length ≤ 20 → Q (.ref L) H'
def spShown (K : PySem.W.Frag) : Sp := fun vs H Q _ => ∃ (S D m : Addr) (ms : List Str), vs = [.ref D, .ref m] ∧ DrawAt S D H ∧ m ≠ D ∧ H m = some (.lst (ms.map V.str)) ∧ 0 < ms.length ∧ ms.length ≤ 100 ∧
  ∀ (H' : Hp) (p : Addr) (ss : List Str), Go S D H H' → H p = none → H' p = some (.tup (ss.map V.str)) → (∀ s ∈ ss, s ∈ ms) → ss.length ≤ 6 → Q (.ref p) H'
theorem dig_at {base : Int} {j : Nat} (h : j < base.toNat) : (digits base)[j]? = some (0 + (j : Int)) := by
  unfold digits
  rw [List.getElem?_map, List.getElem?_range h]
  rfl
theorem dig_len (base : Int) : (digits base).length = base.toNat := by
  unfold digits
  rw [List.length_map, List.length_range]
theorem alike_I (a b : List Int) : PySem.W.alike (dI a) (dI b) = true := by
  unfold dI
  simp [PySem.W.alike, PySem.W.alike_ints]
theorem dep_I (a : List Int) : (dI a).depth ≤ 1 := by
  unfold dI
  simp [PyData.depth, PySem.W.depth_ints]
theorem srt_words {base : Int} {ws : List (List Int)} (c : Cmpl base ws) : SR.SrtOk (ws.map dI) := by
  refine ⟨PySem.W.AllAlike.of alike_I, ?_, fun d hd => ?_⟩
  · rcases c.one with e | e
    · right
      rw [e]
      rfl
    · left
      left
      intro d hd
      obtain ⟨w, hw, rfl⟩ := List.mem_map.mp hd
      cases h : w with
      | nil => exact absurd h (e w hw)
      | cons x r => exact ⟨_, _, rfl⟩
  · obtain ⟨w, hw, rfl⟩ := List.mem_map.mp hd
    exact Nat.le_trans (dep_I w) (by decide)
/-- data beside the values -/
theorem zip_dp {K : PySem.W.Frag} {H : Hp} : ∀ {ds : List PyData} {xs : List V}, DpAll K H xs ds → (xs.zip ds).map (·.1) = xs ∧ (xs.zip ds).map (·.2) = ds ∧ ∀ b ∈ xs.zip ds, Dp K H b.1 b.2
  | [], _, h => by
    rw [dpA_nil h]
    exact ⟨rfl, rfl, fun _ h => absurd h List.not_mem_nil⟩
  | d :: ds, _, h => by
    obtain ⟨x, r, rfl, h1, h2⟩ := dpA_cons h
    obtain ⟨a, b, c⟩ := zip_dp h2
    refine ⟨by rw [List.zip_cons_cons, List.map_cons, a], by rw [List.zip_cons_cons, List.map_cons, b], fun y hy => ?_⟩
    rw [List.zip_cons_cons] at hy
    rcases List.mem_cons.mp hy with rfl | hy
    · exact h1
    · exact c y hy
theorem dpA_of {K : PySem.W.Frag} {H : Hp} : ∀ {bs : List (V × PyData)}, (∀ b ∈ bs, Dp K H b.1 b.2) → DpAll K H (bs.map (·.1)) (bs.map (·.2))
  | [], _ => .nil
  | b :: r, h => .cons (h b List.mem_cons_self) (dpA_of fun x hx => h x (List.mem_cons_of_mem _ hx))
theorem perm_back {α β : Type} {f : α → β} {l : List α} {l2 : List β} (h : l2.Perm (l.map f)) : ∃ l' : List α, l'.Perm l ∧ l2 = l'.map f := by
  generalize hm : l.map f = m at h
  induction h generalizing l with
  | nil =>
    cases l with
    | nil => exact ⟨[], .nil, rfl⟩
    | cons x r => cases hm
  | @cons x l1 l2 p ih =>
    cases l with
    | nil => cases hm
    | cons y r =>
      obtain ⟨e1, e2⟩ := List.cons.inj hm
      obtain ⟨l', h1, h2⟩ := ih e2
      exact ⟨y :: l', h1.cons y, by rw [List.map_cons, e1, h2]⟩
  | @swap x y l1 =>
    match l, hm with
    | a :: b :: r, hm =>
      obtain ⟨e1, e2⟩ := List.cons.inj hm
      obtain ⟨e3, e4⟩ := List.cons.inj e2
      exact ⟨b :: a :: r, .swap a b r, by rw [List.map_cons, List.map_cons, e1, e3, e4]⟩
  | @trans l1 l2 l3 p1 p2 ih1 ih2 =>
    obtain ⟨l', h1, h2⟩ := ih2 hm
    obtain ⟨l'', h3, h4⟩ := ih1 h2.symm
    exact ⟨l'', h3.trans h1, h4⟩
theorem Cmpl.perm {base : Int} {ws ws' : List (List Int)} (c : Cmpl base ws) (p : ws'.Perm ws) : Cmpl base ws' := by
  refine ⟨fun t h1 h2 => ?_, fun w hw => c.short w (p.mem_iff.mp hw), ?_, (p.pairwise_iff fun {_ _} => NP.symm).mpr c.pf⟩
  · obtain ⟨w, hw, h⟩ := c.all t h1 h2
    exact ⟨w, p.mem_iff.mpr hw, h⟩
  · rcases c.one with e | e
    · left
      rw [e] at p
      exact List.perm_singleton.mp p
    · exact .inr fun w hw => e w (p.mem_iff.mp hw)
section
variable {P : Program} {w : World} {K : PySem.W.Frag} {mg : Str → Option Value} {base : Heap}
theorem ok__law_words (T : Txt K mg) (D__law_draw : Kept P w K mg base 1 "_law_draw" ["d", "many"] spDraw) {f : Addr} {fd : FuncData} (F : FnP K "_law_words" s__law_words f fd) : FnOk P w K mg base CX0 2 f fd ["d", "base", "many"] (spWords K) := by
  refine F.ok sc__law_words (fun vs H Q E h => ?_) (fun cdv A outer s H vs Q E hr h => ?_)
  · obtain ⟨S, D, b, many, rfl, _⟩ := h
    rfl
  · obtain ⟨S, D, b, many, rfl, d, b2, b6, m0, m2, q⟩ := h
    refine ⟨_, PSs.nox (pss_cons (ps_set (i := 3) sc__law_words.nd rfl (Or.inl rfl) (pe_lst (pa_cons (pe_tup pa_nil) pa_nil)))
      (pss_cons (ps_for PassesOwn.never rfl (pi_range1 (by rfl) T.b_range (pa_cons (pv 2) pa_nil)) (pg_name (i := 4) sc__law_words.nd rfl (Or.inl rfl)) (pss_cons (ps_set (i := 5) sc__law_words.nd rfl (Or.inl rfl) (pe_d D__law_draw (hr.mono (by decide)) (by rfl) (pa_cons (pv 0) (pa_cons (pe_callB call_len (by rfl) T.b_len (by decide +kernel) (pa_cons (pv 3) pa_nil)) pa_nil))))
      (pss_one (ps_if (pt_cmpR op_lt (pe_callB call_len (by rfl) T.b_len (by decide +kernel) (pa_cons (pe_ix ix_list (pv 3) (pv 5) (fun _ _ => rfl)) pa_nil)) pe_int (nomark _)) (pss_cons (ps_set (i := 6) sc__law_words.nd rfl (Or.inr rfl) (pe_bm PySem.F.plainAttrs_list PySem.F.slot_list_pop PySem.F.type_list_pop mt_popAt (pv 3) (pa_cons (pv 5) pa_nil)))
      (pss_one (ps_set (i := 3) sc__law_words.nd rfl (Or.inl rfl) (pe_op op_cat (pv 3) (pe_lc (own := [("digit", 7)]) (g := (gName 7)) (tt := tYes) rfl sc__law_words.nd (pi_range1 (by rfl) T.b_range (pa_cons (pv 1) pa_nil)) (blkOk_by (N := N__law_words) (sc := defScope s__law_words) (by decide +kernel)) (fun _ _ _ _ _ => (pg_name (i := 7) sc__law_words.nd rfl (Or.inl rfl))) (fun _ _ _ _ _ => pts_nil) (fun _ _ _ _ _ => (pe_op (catA (K := K) rfl) (pv 6) (pe_tup (pa_cons (pv 7) pa_nil))))))))) pss_nil))))
      (pss_one (ps_ret (pe_callB (srtK (K := K) rfl hr.units) (by rfl) T.b_sorted (by decide +kernel) (pa_cons (pv 3) pa_nil)))))), ?_⟩
    refine ⟨Nat.zero_le _, fun p0 hp0 => ⟨by show 1 ≤ sizeLine; decide, fun L0 hL0 => ?_⟩⟩
    have g1 := Go.new (o := .tup []) d hp0
    have g2 := g1.trans (Go.new (o := .lst [.ref p0]) g1.1 hL0)
    have L00 := g1.free d hL0
    have hp2 : (upd (upd H p0 (.tup [])) L0 (.lst [.ref p0])) p0 = some (.tup []) := same_new hL0 _ _ upd_same
    refine ⟨_, rfl, _, rfl, by omega, by omega, for_range (lo := 0) (n := many.toNat) (fun i σ H' => ∃ (y4 y5 y6 y7 : Option V) (Lw : Addr) (xs : List V) (ws : List (List Int)), σ = [some (.ref D), some (.int b), some (.int many), some (.ref Lw), y4, y5, y6, y7] ∧ Go S D H H' ∧ H Lw = none ∧ H' Lw = some (.lst xs) ∧ DpAll K H' xs (ws.map dI) ∧ Cmpl b ws ∧ 0 < ws.length ∧ ws.length ≤ 1 + 6 * i) ⟨_, _, _, _, L0, _, [[]], rfl, g2, L00, upd_same, .cons (i_of (ss := []) (SqT.of hp2)) .nil, Cmpl.start b, by decide, by decide⟩ ?_ ?_⟩
    · rintro i σ H1 hi ⟨y4, y5, y6, y7, Lw, xs, ws, rfl, g, hL0, hL, hA, hc, l0, l1⟩
      have LD := (d.free hL0).1
      have xl := dpA_len hA
      rw [List.length_map] at xl
      refine ⟨_, rfl, _, rfl, _, _, rfl, .inl ⟨_, SqL.of hL, rfl⟩, S, D, _, rfl, divW_of (by omega) (by omega), g.1, fun H2 v v0 v1 g2 => ?_⟩
      have hv : v.toNat < xs.length := by omega
      have ex : xs[v.toNat]? = some xs[v.toNat] := List.getElem?_eq_getElem hv
      have hL2 := g2.2 _ _ hL LD
      have hA2 := dpA_keep (Go.keepT g.1 g2) _ _ (noLs_I ws) hA
      obtain ⟨wd, hw, hx⟩ := dpA_mem hA2 ex
      obtain ⟨pw, hpw, hpT⟩ := i_at hx
      have ea : atI xs v = some (.ref pw) := by
        have := atI_nat (xs := xs) ex
        rw [hpw, show ((v.toNat : Nat) : Int) = v by omega] at this
        exact this
      refine ⟨_, rfl, _, rfl, Lw, xs, v, _, rfl, rfl, SqL.of hL2, ea, _, _, rfl, .inr ⟨_, hpT, rfl⟩, ?_⟩
      refine ⟨_, _, rfl, rfl, _, rfl, ?_⟩
      refine ite2 (fun e3 => ?_) (fun _ => ⟨_, _, _, _, Lw, xs, ws, rfl, g.trans g2, hL0, hL2, hA2, hc, l0, by omega⟩)
      have hw3 : wd.length < 3 := by
        have := of_decide_eq_true e3
        rw [List.length_map] at this
        omega
      refine ⟨_, rfl, .inl ⟨rfl, _, SqL.of hL2⟩, _, rfl, Lw, xs, v, v.toNat, _, rfl, rfl, hL2, by omega, by omega, seqIndex_of v0 (by omega), ex, ?_⟩
      rw [hpw]
      have kL := keepT_nt (o := .lst (xs.eraseIdx v.toNat)) (nt_lst _) hL2
      have g3 : Go S D H (upd H2 Lw (.lst (xs.eraseIdx v.toNat))) := goU hL0 d (g.trans g2)
      have hL3 := upd_same (H := H2) (a := Lw) (o := .lst (xs.eraseIdx v.toNat))
      have hA3 := dpA_keep kL _ _ (noLs_I ws) hA2
      have hp3 := sqt_keep kL hpT
      generalize upd H2 Lw (.lst (xs.eraseIdx v.toNat)) = H3 at g3 hL3 hA3 hp3
      refine ⟨_, rfl, _, rfl, _, rfl, by omega, by omega, fun Lc hLc => lc_range (lo := 0) (n := b.toNat) (fun j H' => Same H3 H' ∧ ∃ zs, H' Lc = some (.lst zs) ∧ DpAll K H' zs ((((digits b).take j).map fun x => wd ++ [x]).map dI)) ⟨same_new hLc, [], upd_same, .nil⟩ ?_ ?_⟩
      · rintro j H4 hj ⟨s4, zs, hz, hzA⟩
        refine ⟨rfl, _, rfl, _, rfl, by show 1 ≤ sizeLine; decide, fun p1 hp1 => ?_⟩
        have s5 := s4.trans (same_new (o := .tup [V.int (0 + (j : Int))]) hp1)
        have h15 := upd_same (H := H4) (a := p1) (o := .tup [V.int (0 + (j : Int))])
        have hz5 := same_new (o := .tup [V.int (0 + (j : Int))]) hp1 _ _ hz
        have hzA5 := dpA_keep (keepT_new (o := .tup [V.int (0 + (j : Int))]) hp1) _ _ (noLs_I _) hzA
        generalize upd H4 p1 (.tup [V.int (0 + (j : Int))]) = H5 at s5 h15 hz5 hzA5
        have hdj := dig_at (base := b) hj
        have zl := dpA_len hzA5
        rw [List.length_map, List.length_map, List.length_take] at zl
        have fin : ∀ (H6 : Hp) (p : Addr), Same H5 H6 → SqT K H6 p ((wd ++ [0 + (j : Int)]).map V.int) → ∃ acc, H6 Lc = some (.lst acc) ∧ acc.length < sizeLine ∧ Same H3 (upd H6 Lc (.lst (acc ++ [.ref p]))) ∧ ∃ zs, upd H6 Lc (.lst (acc ++ [.ref p])) Lc = some (.lst zs) ∧ DpAll K (upd H6 Lc (.lst (acc ++ [.ref p]))) zs ((((digits b).take (j + 1)).map fun x => wd ++ [x]).map dI) := fun H6 p s6 hp => by
          have hz6 := s6 _ _ hz5
          have kc := keepT_nt (o := .lst (zs ++ [.ref p])) (nt_lst _) hz6
          refine ⟨zs, hz6, line6 (by omega), same_mut (s5.trans s6) hLc, zs ++ [.ref p], upd_same, ?_⟩
          rw [List.take_add_one, hdj, List.map_append, List.map_append]
          exact dpA_snoc (dpA_keep kc _ _ (noLs_I _) (dpA_keep (KeepT.of_same s6) _ _ (noLs_I _) hzA5)) (dp_keep kc _ _ (dI_noL _) (i_of hp))
        have hpw5 := sqt_keep (KeepT.of_same s5) hp3
        refine ⟨pw, p1, _, _, rfl, rfl, hpw5, SqT.of h15, by rw [List.length_map]; exact line5 (by show _ + 1 ≤ _; omega), fun e => ?_, fun _ e => (by cases e), fun _ _ p hp => ?_⟩
        · have : wd = [] := List.map_eq_nil_iff.mp e
          subst this
          exact fin H5 p1 (Same.refl _) (SqT.of h15)
        · exact fin _ p (same_new hp) (SqT.of (by rw [upd_same, List.map_append]; rfl))
      · rintro H4 ⟨s4, zs, hz, hzA⟩
        rw [List.take_of_length_le (by rw [dig_len]; exact Nat.le_refl _)] at hzA
        have zl := dpA_len hzA
        rw [List.length_map, List.length_map, dig_len] at zl
        have hA4 := dpA_keep (KeepT.of_same s4) _ _ (noLs_I ws) hA3
        have hE := dpA_erase v.toNat hA4
        refine ⟨Lw, Lc, _, zs, rfl, rfl, s4 _ _ hL3, hz, by rw [List.length_eraseIdx_of_lt hv]; exact line5 (by omega), fun Ln hLn => ?_⟩
        have s5 := same_new (o := .lst (xs.eraseIdx v.toNat ++ zs)) hLn
        have k5 := KeepT.of_same s5
        have hLnH : H Ln = none := by
          have g4 := g3.trans (Go.same g3.1 s4)
          exact g4.free d hLn
        have ee : (ws.map dI).eraseIdx v.toNat = (ws.eraseIdx v.toNat).map dI := by
          simp [List.eraseIdx_eq_take_drop_succ]
        rw [ee] at hE
        have wl : (ws.eraseIdx v.toNat).length + 1 = ws.length := by
          rw [List.length_eraseIdx_of_lt (by omega)]
          omega
        refine ⟨_, _, _, _, Ln, _, ws.eraseIdx v.toNat ++ (digits b).map fun x => wd ++ [x], rfl, g3.trans (Go.same g3.1 (s4.trans s5)), hLnH, upd_same, ?_, hc.open hw hw3, ?_, ?_⟩
        · rw [List.map_append]
          exact dpA_app (dpA_keep k5 _ _ (noLs_I _) hE) (dpA_keep k5 _ _ (noLs_I _) hzA)
        · rw [List.length_append, List.length_map, dig_len]
          omega
        · rw [List.length_append, List.length_map, dig_len]
          omega
    · rintro σ H1 ⟨y4, y5, y6, y7, Lw, xs, ws, rfl, g, hL0, hL, hA, hc, l0, l1⟩
      obtain ⟨z1, z2, z3⟩ := zip_dp hA
      refine ⟨_, rfl, Lw, xs.zip (ws.map dI), rfl, SqL.of (by rw [z1]; exact hL), z3, by rw [z2]; exact srt_words hc, fun ys p hy hp => ?_⟩
      have hperm : (ys.map (·.2)).Perm (ws.map dI) := by
        have := hy.map (fun b : V × PyData => b.2)
        rw [z2] at this
        exact this
      obtain ⟨ws', w1, w2⟩ := perm_back hperm
      have gp := Go.new (o := .lst (ys.map (·.1))) g.1 hp
      have hA' := dpA_of (bs := ys) fun b hb => z3 b (hy.mem_iff.mp hb)
      rw [w2] at hA'
      exact q _ p _ ws' (g.trans gp) (g.free d hp) upd_same (dpA_keep (Go.keepT g.1 gp) _ _ (noLs_I ws') hA') (hc.perm w1) (by rw [w1.length_eq]; exact l0) (by rw [w1.length_eq]; omega)
end
end Mt
namespace Mt
open PySem PySem.Spec PyProof.Rows L2
structure RwOk (base : Int) (n : Nat) (r : List Br) : Prop where
  ne : 0 < r.length
  few : r.length ≤ 20
  to : ∀ b ∈ r, b.2.2 < n ∧ b.2.1.length ≤ 6
  cm : Cmpl base (r.map (·.1))
structure ChnOk (base : Int) (C : Chn) : Prop where
  b2 : 2 ≤ base
  b6 : base ≤ 6
  pos : 0 < C.length
  few : C.length ≤ 50
  row : ∀ r ∈ C, RwOk base C.length r
def spWChain (K : PySem.W.Frag) : Sp := fun vs H Q _ => ∃ (S D m : Addr) (base n : Int) (ms : List Str), vs = [.ref D, .int base, .int n, .ref m] ∧ DrawAt S D H ∧ m ≠ D ∧ H m = some (.lst (ms.map V.str)) ∧ 0 < ms.length ∧ ms.length ≤ 100 ∧ 2 ≤ base ∧ base ≤ 6 ∧ 1 ≤ n ∧ n ≤ 50 ∧
  ∀ (H' : Hp) (v : V) (C : Chn), Go S D H H' → Dp K H' v (dChn base C) → ChnOk base C → C.length = n.toNat → Q v H'
def spRChain (K : PySem.W.Frag) : Sp := fun vs H Q _ => ∃ (S D m : Addr) (n : Int) (ms : List Str), vs = [.ref D, .ref m, .int n] ∧ DrawAt S D H ∧ m ≠ D ∧ H m = some (.lst (ms.map V.str)) ∧ 0 < ms.length ∧ ms.length ≤ 100 ∧ 1 ≤ n ∧ n ≤ 50 ∧
  ∀ (H' : Hp) (v : V) (base : Int) (C : Chn), Go S D H H' → Dp K H' v (dChn base C) → ChnOk base C → Q v H'
theorem noLs_br (r : List Br) : noLs (r.map dBr) = true := noLs_map _ _ fun b _ => dBr_noL b
theorem noLs_rw (C : Chn) : noLs (C.map dRw) = true := noLs_map _ _ fun r _ => dRw_noL r
section
variable {P : Program} {w : World} {K : PySem.W.Frag} {mg : Str → Option Value} {base : Heap}
theorem ok__law_wide_shown (T : Txt K mg) (D__law_pick : Kept P w K mg base 2 "_law_pick" ["d", "row"] (spPick K)) {f : Addr} {fd : FuncData} (F : FnP K "_law_wide_shown" s__law_wide_shown f fd) : FnOk P w K mg base CX0 3 f fd ["d", "marks"] (spShown K) := by
  refine F.ok sc__law_wide_shown (fun vs H Q E h => ?_) (fun cdv A outer s H vs Q E hr h => ?_)
  · obtain ⟨S, D, m, ms, rfl, _⟩ := h
    rfl
  · obtain ⟨S, D, m, ms, rfl, d, nD, hm, h0, h1, q⟩ := h
    refine ⟨_, PSs.nox (pss_one (ps_ret (pe_callTy (tupOfT (K := K) rfl) (by rfl) T.b_tuple (by decide +kernel) (pa_cons (pe_lc (own := [("k", 2)]) (g := (gName 2)) (tt := tYes) rfl sc__law_wide_shown.nd (pi_range1 (by rfl) T.b_range (pa_cons (pe_d D__law_pick (hr.mono (by decide)) (by rfl) (pa_cons (pv 0) (pa_cons (pe_lst (pa_cons pe_int (pa_cons pe_int (pa_cons pe_int (pa_cons pe_int (pa_cons pe_int (pa_cons pe_int (pa_cons pe_int (pa_cons pe_int (pa_cons pe_int pa_nil)))))))))) pa_nil))) pa_nil)) (blkOk_by (N := N__law_wide_shown) (sc := defScope s__law_wide_shown) (by decide +kernel)) (fun _ _ _ _ _ => (pg_name (i := 2) sc__law_wide_shown.nd rfl (Or.inl rfl))) (fun _ _ _ _ _ => pts_nil) (fun _ _ _ _ _ => (pe_d D__law_pick (hr.mono (by decide)) (by rfl) (pa_cons (pv 0) (pa_cons (pv 1) pa_nil))))) pa_nil)))), ?_⟩
    refine ⟨_, rfl, by show 9 ≤ sizeLine; decide, fun L hL => ?_⟩
    have d1 := d.new (o := .lst [V.int 0, .int 0, .int 1, .int 1, .int 1, .int 2, .int 2, .int 3, .int 6]) hL
    have LD := (d.free hL).1
    have g1 : Go S D H (upd H L (.lst [V.int 0, .int 0, .int 1, .int 1, .int 1, .int 2, .int 2, .int 3, .int 6])) := Go.new d hL
    refine ⟨S, D, .ref L, [V.int 0, .int 0, .int 1, .int 1, .int 1, .int 2, .int 2, .int 3, .int 6], rfl, d1, fun H' g => .inr (.inl ⟨L, rfl, SqL.of (g.2 _ _ upd_same LD)⟩), by decide, by decide, fun H2 x hx g2 => ?_⟩
    obtain ⟨n, rfl, hn⟩ : ∃ n : Nat, x = .int (n : Int) ∧ n ≤ 6 := by
      simp only [List.mem_cons, List.not_mem_nil, or_false] at hx
      rcases hx with e | e | e | e | e | e | e | e | e
      · exact ⟨0, e, by decide⟩
      · exact ⟨0, e, by decide⟩
      · exact ⟨1, e, by decide⟩
      · exact ⟨1, e, by decide⟩
      · exact ⟨1, e, by decide⟩
      · exact ⟨2, e, by decide⟩
      · exact ⟨2, e, by decide⟩
      · exact ⟨3, e, by decide⟩
      · exact ⟨6, e, by decide⟩
    have g3 := g1.trans g2
    refine ⟨_, rfl, by omega, by omega, fun Lc hLc => lc_range (lo := 0) (n := n) (fun j H' => ∃ ss : List Str, Go S D H2 H' ∧ H' Lc = some (.lst (ss.map V.str)) ∧ ss.length = j ∧ ∀ s ∈ ss, s ∈ ms) ⟨[], Go.new g3.1 hLc, upd_same, rfl, fun _ h => absurd h List.not_mem_nil⟩ ?_ ?_⟩
    · rintro j H4 hj ⟨ss, g4, hL4, hl, hs⟩
      have LcD := (g3.1.free hLc).1
      refine ⟨rfl, _, rfl, _, rfl, S, D, .ref m, ms.map V.str, rfl, g4.1, fun H' g' => .inr (.inl ⟨m, rfl, SqL.of (((g3.trans g4).trans g').2 _ _ hm nD)⟩), by rw [List.length_map]; exact h0, by rw [List.length_map]; omega, fun H5 x hx g5 => ?_⟩
      obtain ⟨z, hz, rfl⟩ := List.mem_map.mp hx
      refine ⟨_, g5.2 _ _ hL4 LcD, by rw [List.length_map]; exact line6 (by omega), ss ++ [z], goU hLc g3.1 (g4.trans g5), by rw [upd_same, List.map_append]; rfl, by rw [List.length_append, List.length_singleton, hl], fun s h => ?_⟩
      rcases List.mem_append.mp h with h | h
      · exact hs s h
      · rw [List.mem_singleton.mp h]
        exact hz
    · rintro H4 ⟨ss, g4, hL4, hl, hs⟩
      refine ⟨Lc, _, rfl, .inl ⟨SqL.of hL4, fun p hp => ?_⟩⟩
      have g5 := g3.trans g4
      exact q _ p ss (g5.trans (Go.new g5.1 hp)) (g5.free d hp) upd_same hs (by omega)
theorem ok__law_wide_chain (T : Txt K mg) (D__law_draw : Kept P w K mg base 1 "_law_draw" ["d", "many"] spDraw) (D__law_words : Kept P w K mg base 2 "_law_words" ["d", "base", "many"] (spWords K)) (D__law_wide_shown : Kept P w K mg base 3 "_law_wide_shown" ["d", "marks"] (spShown K)) {f : Addr} {fd : FuncData} (F : FnP K "_law_wide_chain" s__law_wide_chain f fd) : FnOk P w K mg base CX0 4 f fd ["d", "base", "states", "marks"] (spWChain K) := by
  refine F.ok sc__law_wide_chain (fun vs H Q E h => ?_) (fun cdv A outer s H vs Q E hr h => ?_)
  · obtain ⟨S, D, m, b, n, ms, rfl, _⟩ := h
    rfl
  · obtain ⟨S, D, m, b, n, ms, rfl, d, nD, hm, h0, h1, b2, b6, n1, n2, q⟩ := h
    refine ⟨_, PSs.nox (pss_cons (ps_set (i := 4) sc__law_wide_chain.nd rfl (Or.inl rfl) (pe_lst pa_nil))
      (pss_cons (ps_for PassesOwn.never rfl (pi_range1 (by rfl) T.b_range (pa_cons (pv 2) pa_nil)) (pg_name (i := 5) sc__law_wide_chain.nd rfl (Or.inl rfl)) (pss_cons (ps_set (i := 6) sc__law_wide_chain.nd rfl (Or.inl rfl) (pe_lst pa_nil))
      (pss_cons (ps_for PassesOwn.never rfl (pi_list (pe_d D__law_words (hr.mono (by decide)) (by rfl) (pa_cons (pv 0) (pa_cons (pv 1) (pa_cons (pe_d D__law_draw (hr.mono (by decide)) (by rfl) (pa_cons (pv 0) (pa_cons pe_int pa_nil))) pa_nil))))) (pg_name (i := 7) sc__law_wide_chain.nd rfl (Or.inl rfl)) (pss_one (ps_expr (pe_bm PySem.F.plainAttrs_list PySem.F.slot_list_append PySem.F.type_list_append mt_append (pv 6) (pa_cons (pe_tup (pa_cons (pv 7) (pa_cons (pe_d D__law_wide_shown (hr.mono (by decide)) (by rfl) (pa_cons (pv 0) (pa_cons (pv 3) pa_nil))) (pa_cons (pe_d D__law_draw (hr.mono (by decide)) (by rfl) (pa_cons (pv 0) (pa_cons (pv 2) pa_nil))) pa_nil)))) pa_nil)))))
      (pss_one (ps_expr (pe_bm PySem.F.plainAttrs_list PySem.F.slot_list_append PySem.F.type_list_append mt_append (pv 4) (pa_cons (pe_callTy (tupOfT (K := K) rfl) (by rfl) T.b_tuple (by decide +kernel) (pa_cons (pv 6) pa_nil)) pa_nil)))))))
      (pss_one (ps_ret (pe_tup (pa_cons pe_str (pa_cons (pv 1) (pa_cons (pe_callTy (tupOfT (K := K) rfl) (by rfl) T.b_tuple (by decide +kernel) (pa_cons (pv 4) pa_nil)) pa_nil)))))))), ?_⟩
    refine ⟨Nat.zero_le _, fun L hL => ?_⟩
    have g1 := Go.new (o := .lst []) d hL
    have LD := (d.free hL).1
    refine ⟨_, rfl, _, rfl, by omega, by omega, for_range (lo := 0) (n := n.toNat) (fun i σ H' => ∃ (y5 y6 y7 : Option V) (zs : List V) (C : Chn), σ = [some (.ref D), some (.int b), some (.int n), some (.ref m), some (.ref L), y5, y6, y7] ∧ Go S D H H' ∧ H' L = some (.lst zs) ∧ DpAll K H' zs (C.map dRw) ∧ C.length = i ∧ ∀ r ∈ C, RwOk b n.toNat r) ⟨_, _, _, [], [], rfl, g1, upd_same, .nil, rfl, fun _ h => absurd h List.not_mem_nil⟩ ?_ ?_⟩
    · rintro i σ H1 hi ⟨y5, y6, y7, zs, C, rfl, g, hL1, hzs, hC, hCr⟩
      have zl := dpA_len hzs
      rw [List.length_map] at zl
      refine ⟨Nat.zero_le _, fun f hf => ?_⟩
      have gf := Go.new (o := .lst []) g.1 hf
      have fD := (g.1.free hf).1
      have fL : f ≠ L := (ne_of_none hL1 hf).symm
      have hf2 := upd_same (H := H1) (a := f) (o := .lst [])
      generalize upd H1 f (.lst []) = H2 at gf hf2
      refine ⟨_, rfl, _, rfl, _, rfl, S, D, 3, rfl, divW_of (by decide) (by decide), gf.1, fun H3 mm m0 m1 g3 => ⟨S, D, b, mm, rfl, g3.1, b2, b6, m0, by omega, fun H4 Lw xs ws g4 hLw0 hLw hA hc w0 w1 => ?_⟩⟩
      have g34 := gf.trans (g3.trans g4)
      have LwD := (g3.1.free hLw0).1
      have hf4 := (g3.trans g4).2 _ _ hf2 fD
      have LwF : Lw ≠ f := fun e => by
        rw [e, g3.2 _ _ hf2 fD] at hLw0
        cases hLw0
      have xl := dpA_len hA
      rw [List.length_map] at xl
      refine ⟨Lw, rfl, ⟨_, SqL.of hLw⟩, for_list (K := K) (a := Lw) (xs := xs) (fun j σ H' => ∃ (y7 : Option V) (qs : List V) (r : List Br), σ = [some (.ref D), some (.int b), some (.int n), some (.ref m), some (.ref L), some (.int (0 + (i : Int))), some (.ref f), y7] ∧ Go S D H1 H' ∧ H' Lw = some (.lst xs) ∧ DpAll K H' xs (ws.map dI) ∧ H' f = some (.lst qs) ∧ DpAll K H' qs (r.map dBr) ∧ r.map (·.1) = ws.take j ∧ ∀ b ∈ r, b.2.2 < n.toNat ∧ b.2.1.length ≤ 6) ⟨_, [], [], rfl, g34, hLw, hA, hf4, .nil, rfl, fun _ h => absurd h List.not_mem_nil⟩ (fun i σ H' _ ⟨_, _, _, _, _, h, _⟩ => SqL.of h) ?_ ?_⟩
      · rintro j x σ H5 hj ⟨y7, qs, r, rfl, g5, hLw5, hA5, hf5, hr5, er, hrr⟩
        obtain ⟨wd, hw, hx⟩ := dpA_mem hA5 hj
        have jl := (List.getElem?_eq_some_iff.mp hj).1
        refine ⟨_, rfl, .inl ⟨rfl, _, SqL.of hf5⟩, _, rfl, _, rfl, _, rfl, S, D, m, ms, rfl, g5.1, nD, (g.trans g5).2 _ _ hm nD, h0, h1, fun H6 p ss g6 hp0 hp hss hsl => ?_⟩
        have pD := (g5.1.free hp0).1
        refine ⟨_, rfl, _, rfl, S, D, n, rfl, divW_of (by omega) (by omega), g6.1, fun H7 t t0 t1 g7 => ⟨by show 3 ≤ sizeLine; decide, fun pb hpb => ?_⟩⟩
        have g67 := g6.trans g7
        have gb := g67.trans (Go.new (o := .tup [x, .ref p, .int t]) g7.1 hpb)
        have hpb8 := upd_same (H := H7) (a := pb) (o := .tup [x, .ref p, .int t])
        have hp8 := same_new (o := .tup [x, .ref p, .int t]) hpb _ _ (g7.2 _ _ hp pD)
        generalize upd H7 pb (.tup [x, .ref p, .int t]) = H8 at gb hpb8 hp8
        have k8 := Go.keepT g5.1 gb
        have hf8 := gb.2 _ _ hf5 fD
        have kf := keepT_nt (o := .lst (qs ++ [.ref pb])) (nt_lst _) hf8
        have ql := dpA_len hr5
        rw [List.length_map] at ql
        have rl : r.length = j := by
          have := congrArg List.length er
          rw [List.length_map, List.length_take] at this
          omega
        have dB : Dp K H8 (.ref pb) (dBr (wd, ss, t.toNat)) := by
          have e1 : PyData.int ((t.toNat : Nat) : Int) = .int t := by rw [Int.toNat_of_nonneg t0]
          show Dp K H8 (.ref pb) (.tuple [dI wd, dSh ss, .int ((t.toNat : Nat) : Int)])
          rw [e1]
          exact .tup (SqT.of hpb8) (.cons (dp_keep k8 _ _ (dI_noL wd) hx) (.cons (sh_of (SqT.of hp8)) (.cons (.int _) .nil)))
        refine ⟨f, qs, _, rfl, rfl, hf8, line6 (by omega), _, qs ++ [.ref pb], r ++ [(wd, ss, t.toNat)], rfl, goU hf g.1 (g5.trans gb), ?_, dpA_keep kf _ _ (noLs_I ws) (dpA_keep k8 _ _ (noLs_I ws) hA5), upd_same, ?_, ?_, fun y hy => ?_⟩
        · rw [upd_ne LwF]
          exact gb.2 _ _ hLw5 LwD
        · rw [List.map_append]
          exact dpA_snoc (dpA_keep kf _ _ (noLs_br r) (dpA_keep k8 _ _ (noLs_br r) hr5)) (dp_keep kf _ _ (dBr_noL _) dB)
        · rw [List.map_append, er, List.take_add_one, hw]
          rfl
        · rcases List.mem_append.mp hy with h | h
          · exact hrr y h
          · rw [List.mem_singleton.mp h]
            exact ⟨by show t.toNat < n.toNat; omega, hsl⟩
      · rintro σ H5 ⟨y7, qs, r, rfl, g5, hLw5, hA5, hf5, hr5, er, hrr⟩
        rw [xl, List.take_length] at er
        have rl : r.length = ws.length := by
          rw [← er, List.length_map]
        have gg := g.trans g5
        have hL5 := g5.2 _ _ hL1 LD
        refine ⟨_, rfl, .inl ⟨rfl, _, SqL.of hL5⟩, _, rfl, f, qs, rfl, .inl ⟨SqL.of hf5, fun pr hpr => ?_⟩⟩
        have gp := Go.new (o := .tup qs) g5.1 hpr
        have kp := Go.keepT g5.1 gp
        have hpr6 := upd_same (H := H5) (a := pr) (o := .tup qs)
        have hL6 := gp.2 _ _ hL5 LD
        generalize upd H5 pr (.tup qs) = H6 at gp kp hpr6 hL6
        have kL := keepT_nt (o := .lst (zs ++ [.ref pr])) (nt_lst _) hL6
        refine ⟨L, zs, _, rfl, rfl, hL6, line6 (by omega), _, _, _, zs ++ [.ref pr], C ++ [r], rfl, goU hL d (gg.trans gp), upd_same, ?_, by rw [List.length_append, hC]; rfl, fun x hx => ?_⟩
        · rw [List.map_append]
          exact dpA_snoc (dpA_keep kL _ _ (noLs_rw C) (dpA_keep (Go.keepT g.1 (g5.trans gp)) _ _ (noLs_rw C) hzs)) (dp_keep kL _ _ (dRw_noL _) (.tup (SqT.of hpr6) (dpA_keep kp _ _ (noLs_br r) hr5)))
        · rcases List.mem_append.mp hx with h | h
          · exact hCr x h
          · rw [List.mem_singleton.mp h]
            exact ⟨by omega, by omega, hrr, by rw [er]; exact hc⟩
    · rintro σ H1 ⟨y5, y6, y7, zs, C, rfl, g, hL1, hzs, hC, hCr⟩
      refine ⟨_, rfl, _, rfl, L, zs, rfl, .inl ⟨SqL.of hL1, fun pq hpq => ⟨by show 3 ≤ sizeLine; decide, fun pw hpw => ?_⟩⟩⟩
      have gq := Go.new (o := .tup zs) g.1 hpq
      have gw := gq.trans (Go.new (o := .tup [.str "chain", .int b, .ref pq]) gq.1 hpw)
      have hpq2 := same_new (o := .tup [.str "chain", .int b, .ref pq]) hpw _ _ (upd_same (H := H1) (a := pq) (o := .tup zs))
      refine q _ _ C (g.trans gw) (.tup (SqT.of upd_same) (.cons (.str _) (.cons (.int _) (.cons (.tup (SqT.of hpq2) (dpA_keep (Go.keepT g.1 gw) _ _ (noLs_rw C) hzs)) .nil)))) ⟨b2, b6, by omega, by omega, fun r hr => ?_⟩ hC
      rw [hC]
      exact hCr r hr
end
end Mt
namespace Mt
open PySem PySem.Spec PyProof.Rows L2
theorem getElem?_lt {α : Type} {l : List α} {i : Nat} (h : i < l.length) : l[i]? = some (l[i]'h) := List.getElem?_eq_getElem h
mutual
theorem dp_same {K : PySem.W.Frag} {H H' : Hp} (s : Same H H') : ∀ (d : PyData) (v : V), Dp K H v d → Dp K H' v d
  | .none, _, h => by
    cases h
    exact .non
  | .bool b, _, h => by
    cases h
    exact .bl b
  | .int i, _, h => by
    cases h
    exact .int i
  | .str x, _, h => by
    cases h
    exact .str x
  | .list ds, _, h => by
    cases h with
    | lst h1 h2 => exact .lst (same_l s h1) (dpA_same s ds _ h2)
  | .dict ds, n, h => by
    cases h
  | .tuple ds, _, h => by
    cases h with
    | tup h1 h2 => exact .tup (same_t s h1) (dpA_same s ds _ h2)
theorem dpA_same {K : PySem.W.Frag} {H H' : Hp} (s : Same H H') : ∀ (ds : List PyData) (xs : List V), DpAll K H xs ds → DpAll K H' xs ds
  | [], _, h => by
    cases h
    exact .nil
  | d :: ds, _, h => by
    cases h with
    | cons h1 h2 => exact .cons (dp_same s d _ h1) (dpA_same s ds _ h2)
end
theorem dp_lst {K : PySem.W.Frag} {H : Hp} {v : V} {ds : List PyData} (h : Dp K H v (.list ds)) : ∃ a xs, v = .ref a ∧ SqL K H a xs ∧ DpAll K H xs ds := by
  cases h with
  | lst h1 h2 => exact ⟨_, _, rfl, h1, h2⟩
theorem piTK {X : Cx} {K : PySem.W.Frag} {e tg : Expr} {te : TE} (h : X.K = K) (he : PE X e te) : PI X tg e (iTup K te) := h ▸ pi_tup he
theorem same_upd {H H' : Hp} {L : Addr} {o : HO} (s : Same H H') : Same (upd H L o) (upd H' L o) := fun b u e => by
  by_cases k : b = L
  · subst k
    rw [upd_same] at e ⊢
    exact e
  · rw [upd_ne k] at e ⊢
    exact s b u e
theorem upd_self {H : Hp} {p : Addr} {o : HO} (h : H p = some o) : upd H p o = H := by
  funext x
  by_cases k : x = p
  · subst k
    rw [upd_same, h]
  · rw [upd_ne k]
/-- a list of lists that is being filled: what it holds stands whatever stands at its own place -/
structure FL (K : PySem.W.Frag) (L : Addr) (H : Hp) (ds : List PyData) : Prop where
  d : ∃ zs, H L = some (.lst zs) ∧ zs.length = ds.length ∧ ∀ o, DpAll K (upd H L o) zs ds
theorem FL.nil {K : PySem.W.Frag} {L : Addr} {H : Hp} (h : H L = none) : FL K L (upd H L (.lst [])) [] := ⟨[], upd_same, rfl, fun _ => .nil⟩
theorem FL.dp {K : PySem.W.Frag} {L : Addr} {H : Hp} {ds : List PyData} (f : FL K L H ds) : Dp K H (.ref L) (.list ds) := by
  obtain ⟨zs, h1, _, h2⟩ := f.d
  have := h2 (.lst zs)
  rw [upd_self h1] at this
  exact .lst (SqL.of h1) this
theorem FL.same {K : PySem.W.Frag} {L : Addr} {H H' : Hp} {ds : List PyData} (f : FL K L H ds) (s : Same H H') : FL K L H' ds := by
  obtain ⟨zs, h1, h3, h2⟩ := f.d
  exact ⟨zs, s _ _ h1, h3, fun o => dpA_same (same_upd s) _ _ (h2 o)⟩
theorem FL.add {K : PySem.W.Frag} {L : Addr} {H : Hp} {ds : List PyData} {zs : List V} {v : V} {d : PyData} (f : FL K L H ds) (h : H L = some (.lst zs)) (hd : ∀ o, Dp K (upd H L o) v d) : FL K L (upd H L (.lst (zs ++ [v]))) (ds ++ [d]) := by
  obtain ⟨zs', h1, h3, h2⟩ := f.d
  rw [h] at h1
  cases h1
  refine ⟨_, upd_same, by rw [List.length_append, List.length_append, h3]; rfl, fun o => ?_⟩
  rw [upd_upd]
  exact dpA_snoc (h2 o) (hd o)
theorem piLK {X : Cx} {K : PySem.W.Frag} {e tg : Expr} {te : TE} (h : X.K = K) (he : PE X e te) : PI X tg e (iList K te) := h ▸ pi_list he
theorem dI_canAll : ∀ l : List Int, PyData.canLayAll0 (l.map PyData.int) = true
  | [] => rfl
  | x :: r => by
    show (PyData.canLay0 (.int x) && PyData.canLayAll0 (r.map PyData.int)) = true
    rw [dI_canAll r]
    rfl
theorem dI_dep : ∀ l : List Int, PyData.depthAll (l.map PyData.int) = 0
  | [] => rfl
  | x :: r => by
    show max (PyData.depth (.int x)) (PyData.depthAll (r.map PyData.int)) = 0
    rw [dI_dep r]
    rfl
theorem dI_lay (l : List Int) : PyData.canLay0 (dI l) = true := dI_canAll l
theorem dI_sh (l : List Int) : SeqAt.shaped (dI l) = true := by
  unfold SeqAt.shaped
  rw [Bool.and_eq_true]
  refine ⟨dI_lay l, decide_eq_true ?_⟩
  show PyData.depthAll (l.map PyData.int) + 1 ≤ 64
  rw [dI_dep]
  decide
theorem eqv_ints : ∀ a b : List Int, PyData.eqvAll (a.map PyData.int) (b.map PyData.int) = decide (a = b)
  | [], [] => rfl
  | [], _ :: _ => rfl
  | _ :: _, [] => rfl
  | x :: a, y :: b => by
    show (PyData.eqv (.int x) (.int y) && PyData.eqvAll (a.map PyData.int) (b.map PyData.int)) = decide (x :: a = y :: b)
    rw [eqv_ints a b]
    show (decide (x = y) && decide (a = b)) = _
    by_cases h1 : x = y <;> by_cases h2 : a = b <;> simp [h1, h2]
theorem eqv_I (a b : List Int) : PyData.eqv (dI a) (dI b) = decide (a = b) := eqv_ints a b
theorem take_snoc {α : Type} {l : List α} {i : Nat} {x : α} (h : l[i]? = some x) : l.take (i + 1) = l.take i ++ [x] := by
  rw [List.take_add_one, h]
  rfl
theorem cut_any {l : List Int} {k m : Nat} (h : k ≤ l.length) : cutV (l.map V.int) (some (k : Int)) (some ((k : Int) + (m : Int))) = ((l.drop k).take m).map V.int := by
  unfold cutV
  rw [HT.sIx_nat, ← Int.natCast_add, HT.sIx_nat, List.length_map, Nat.min_eq_left h, ← List.map_drop, ← List.map_take]
  congr 1
  by_cases e : k + m ≤ l.length
  · rw [Nat.min_eq_left e, Nat.add_sub_cancel_left]
  · rw [Nat.min_eq_right (by omega), List.take_of_length_le (by rw [List.length_drop]; exact Nat.le_refl _), List.take_of_length_le (by rw [List.length_drop]; omega)]
/-! ### one step of a walk -/
def fits (t : List Int) (b : Br) : Bool := decide (t.take b.1.length = b.1)
def nextB (r : List Br) (t : List Int) : Option Br := r.find? (fits t)
def rowOf (C : Chn) (s : Nat) : List Br := (C[s]?).getD []
theorem rowOf_at {C : Chn} {s : Nat} (h : s < C.length) : C[s]? = some (rowOf C s) := by
  unfold rowOf
  rw [List.getElem?_eq_getElem h]
  rfl
def wk (C : Chn) (tape : List Int) : Nat → Option (List (List Str) × Nat × Nat)
  | 0 => some ([], 0, 0)
  | n + 1 => (wk C tape n).bind fun x => (nextB (rowOf C x.2.1) (tape.drop x.2.2)).map fun b => (x.1 ++ [b.2.1], b.2.2, x.2.2 + b.1.length)
theorem fits_pre {t : List Int} {b : Br} : fits t b = true ↔ b.1 <+: t := by
  unfold fits
  rw [decide_eq_true_iff, List.prefix_iff_eq_take]
  exact eq_comm
def spBranch (K : PySem.W.Frag) : Sp := fun vs H Q _ => ∃ (vr vt : V) (k : Nat) (r : List Br) (tape : List Int) (b : Br), vs = [vr, vt, .int k] ∧ Dp K H vr (dRw r) ∧ (∀ b ∈ r, b.1.length ≤ 3) ∧ r.length ≤ 100 ∧ Dp K H vt (dI tape) ∧ k ≤ tape.length ∧ tape.length ≤ 100000 ∧ nextB r (tape.drop k) = some b ∧
  ∀ H' v, Same H H' → Dp K H' v (dBr b) → Q v H'
def spWalk (K : PySem.W.Frag) : Sp := fun vs H Q _ => ∃ (vc vt : V) (n : Nat) (base : Int) (C : Chn) (tape : List Int) (w : List (List Str) × Nat × Nat), vs = [vc, vt, .int n] ∧ Dp K H vc (dChn base C) ∧ ChnOk base C ∧ Dp K H vt (dI tape) ∧ n ≤ 10000 ∧ tape.length ≤ 100000 ∧ wk C tape n = some w ∧
  ∀ H' v, Same H H' → Dp K H' v (.tuple [.tuple (w.1.map dSh), .int w.2.1, .int w.2.2]) → Q v H'
theorem noLs_sh (l : List (List Str)) : noLs (l.map dSh) = true := noLs_map _ _ fun s _ => dSh_noL s
/-- a walk stays in the chain, on the tape, and tells as many as its ticks -/
theorem wk_ok {base : Int} {C : Chn} (ok : ChnOk base C) {tape : List Int} : ∀ (n : Nat) (w : List (List Str) × Nat × Nat), wk C tape n = some w → w.1.length = n ∧ w.2.1 < C.length ∧ w.2.2 ≤ tape.length
  | 0, w, h => by
    cases h
    exact ⟨rfl, ok.pos, Nat.zero_le _⟩
  | n + 1, w, h => by
    obtain ⟨x, hx, h⟩ := Option.bind_eq_some_iff.mp h
    obtain ⟨b, hb, rfl⟩ := Option.map_eq_some_iff.mp h
    obtain ⟨h1, h2, h3⟩ := wk_ok ok n x hx
    have hm := List.mem_of_find?_eq_some hb
    have hf := fits_pre.mp (List.find?_some hb)
    have hl := hf.length_le
    rw [List.length_drop] at hl
    refine ⟨?_, ?_, ?_⟩
    · show (x.1 ++ [b.2.1]).length = n + 1
      rw [List.length_append, h1]
      rfl
    · exact ((ok.row _ (List.mem_of_getElem? (rowOf_at h2))).to b hm).1
    · show x.2.2 + b.1.length ≤ tape.length
      omega
theorem wk_pre {C : Chn} {tape : List Int} {n : Nat} {w : List (List Str) × Nat × Nat} (h : wk C tape n = some w) : ∀ i ≤ n, ∃ x, wk C tape i = some x := fun i hi => by
  induction n generalizing w with
  | zero =>
    obtain rfl : i = 0 := by omega
    exact ⟨_, h⟩
  | succ n ih =>
    by_cases e : i = n + 1
    · subst e
      exact ⟨_, h⟩
    · obtain ⟨x, hx, _⟩ := Option.bind_eq_some_iff.mp h
      exact ih hx (by omega)
end Mt
namespace Mt
open PySem PySem.Spec PyProof.Rows L2
def spShufP (K : PySem.W.Frag) : Sp := fun vs H Q _ => ∃ (S D p : Addr) (xs : List V), vs = [.ref D, .ref p] ∧ DrawAt S D H ∧ SqL K H p xs ∧ xs.length ≤ 1000 ∧
  ∀ (H' : Hp) (q : Addr) (ys : List V), Go S D H H' → H q = none → H' q = some (.lst ys) → ys.Perm xs → Q (.ref q) H'
/-- rows of a chain of n states -/
structure RsOk (base : Int) (n : Nat) (C : Chn) : Prop where
  len : C.length = n
  row : ∀ r ∈ C, RwOk base n r
def spDown (K : PySem.W.Frag) : Sp := fun vs H Q _ => ∃ (S D : Addr) (base n : Int) (m o : Str), vs = [.ref D, .int base, .int n, .str m, .str o] ∧ DrawAt S D H ∧ 2 ≤ base ∧ base ≤ 6 ∧ 1 ≤ n ∧ n ≤ 50 ∧
  ∀ (H' : Hp) (L : Addr) (zs : List V) (C : Chn), Go S D H H' → H L = none → H' L = some (.lst zs) → DpAll K H' zs (C.map dRw) → RsOk base n.toNat C → Q (.ref L) H'
section
variable {P : Program} {w : World} {K : PySem.W.Frag} {mg : Str → Option Value} {base : Heap}
theorem ok__law_shuffled (T : Txt K mg) (D__law_draw : Kept P w K mg base 1 "_law_draw" ["d", "many"] spDraw) {f : Addr} {fd : FuncData} (F : FnP K "_law_shuffled" s__law_shuffled f fd) : FnOk P w K mg base CX0 2 f fd ["d", "row"] (spShufP K) := by
  refine F.ok sc__law_shuffled (fun vs H Q E h => ?_) (fun cdv A outer s H vs Q E hr h => ?_)
  · obtain ⟨S, D, p, xs, rfl, _⟩ := h
    rfl
  · obtain ⟨S, D, p, xs, rfl, d, hp, hl, q⟩ := h
    refine ⟨_, PSs.nox (pss_cons (ps_set (i := 2) sc__law_shuffled.nd rfl (Or.inl rfl) (pe_callTy call_list_of (by rfl) T.b_list (by decide +kernel) (pa_cons (pv 1) pa_nil)))
      (pss_cons (ps_set (i := 3) sc__law_shuffled.nd rfl (Or.inl rfl) (pe_lst pa_nil))
      (pss_cons (ps_for PassesOwn.never rfl (pi_range1 (by rfl) T.b_range (pa_cons (pe_callB call_len (by rfl) T.b_len (by decide +kernel) (pa_cons (pv 2) pa_nil)) pa_nil)) (pg_name (i := 4) sc__law_shuffled.nd rfl (Or.inl rfl)) (pss_one (ps_expr (pe_bm PySem.F.plainAttrs_list PySem.F.slot_list_append PySem.F.type_list_append mt_append (pv 3) (pa_cons (pe_bm PySem.F.plainAttrs_list PySem.F.slot_list_pop PySem.F.type_list_pop mt_popAt (pv 2) (pa_cons (pe_d D__law_draw (hr.mono (by decide)) (by rfl) (pa_cons (pv 0) (pa_cons (pe_callB call_len (by rfl) T.b_len (by decide +kernel) (pa_cons (pv 2) pa_nil)) pa_nil))) pa_nil)) pa_nil)))))
      (pss_one (ps_ret (pv 3)))))), ?_⟩
    refine ⟨_, rfl, p, xs, rfl, .inl hp, fun l hl0 => ⟨Nat.zero_le _, fun f hf => ?_⟩⟩
    have g1 := Go.new (o := .lst xs) d hl0
    have g2 := g1.trans (Go.new (o := .lst []) g1.1 hf)
    have nlf : l ≠ f := fun e => by
      rw [← e, upd_same] at hf
      cases hf
    have hf0 : H f = none := by
      rw [upd_ne nlf.symm] at hf
      exact hf
    have hll : (upd (upd H l (.lst xs)) f (.lst [])) l = some (.lst xs) := by
      rw [upd_ne nlf, upd_same]
    have nlD := (d.free hl0).1
    have nfD := (d.free hf0).1
    refine ⟨_, rfl, _, _, rfl, .inl ⟨_, SqL.of hll, rfl⟩, xs.length, rfl, by omega, by omega, for_range (lo := 0) (n := xs.length) (fun i σ H' => ∃ (y : Option V) (ls fs : List V), σ = [some (.ref D), some (.ref p), some (.ref l), some (.ref f), y] ∧ Go S D H H' ∧ H' l = some (.lst ls) ∧ H' f = some (.lst fs) ∧ ls.length + i = xs.length ∧ fs.length = i ∧ (ls ++ fs).Perm xs) ⟨_, xs, [], rfl, g2, hll, upd_same, rfl, rfl, by rw [List.append_nil]⟩ ?_ ?_⟩
    · rintro i σ H1 hi ⟨y, ls, fs, rfl, g, h1, h2, e1, e2, m1⟩
      refine ⟨_, rfl, .inl ⟨rfl, _, SqL.of h2⟩, _, rfl, .inl ⟨rfl, _, SqL.of h1⟩, _, rfl, _, rfl, _, _, rfl, .inl ⟨_, SqL.of h1, rfl⟩, S, D, _, rfl, divW_of (by omega) (by omega), g.1, fun H2 v v0 v1 g3 => ?_⟩
      have hv : v.toNat < ls.length := by omega
      have ex : ls[v.toNat]? = some ls[v.toNat] := List.getElem?_eq_getElem hv
      have h1' := g3.2 _ _ h1 nlD
      have h2' := g3.2 _ _ h2 nfD
      refine ⟨l, ls, v, v.toNat, _, rfl, rfl, h1', by omega, by omega, seqIndex_of v0 (by omega), ex, ?_⟩
      have h2'' : (upd H2 l (.lst (ls.eraseIdx v.toNat))) f = some (.lst fs) := by
        rw [upd_ne nlf.symm]
        exact h2'
      refine ⟨f, fs, _, rfl, rfl, h2'', line6 (by omega), ?_⟩
      have g4 := g.trans g3
      refine ⟨_, ls.eraseIdx v.toNat, fs ++ [ls[v.toNat]], rfl, ⟨(g4.1.upd nlD (d.free hl0).2).upd nfD (d.free hf0).2, fun b o hb n => ?_⟩, ?_, upd_same, ?_, ?_, ?_⟩
      · rw [upd_ne (ne_of_none hb hf0), upd_ne (ne_of_none hb hl0)]
        exact g4.2 b o hb n
      · rw [upd_ne nlf, upd_same]
      · rw [List.length_eraseIdx_of_lt hv]
        omega
      · rw [List.length_append, List.length_singleton, e2]
      · rw [← List.append_assoc]
        exact ((List.perm_append_singleton _ _).trans ((erase_perm ex).append_right fs)).trans m1
    · rintro σ H1 ⟨y, ls, fs, rfl, g, h1, h2, e1, e2, m1⟩
      have : ls = [] := List.length_eq_zero_iff.mp (by omega)
      rw [this, List.nil_append] at m1
      exact ⟨_, rfl, q _ f fs g hf0 h2 m1⟩
theorem ok__law_downhill (T : Txt K mg) (D__law_draw : Kept P w K mg base 1 "_law_draw" ["d", "many"] spDraw) (D__law_pick : Kept P w K mg base 2 "_law_pick" ["d", "row"] (spPick K)) (D__law_words : Kept P w K mg base 2 "_law_words" ["d", "base", "many"] (spWords K)) {f : Addr} {fd : FuncData} (F : FnP K "_law_downhill" s__law_downhill f fd) : FnOk P w K mg base CX0 3 f fd ["d", "base", "states", "mark", "other"] (spDown K) := by
  refine F.ok sc__law_downhill (fun vs H Q E h => ?_) (fun cdv A outer s H vs Q E hr h => ?_)
  · obtain ⟨S, D, b, n, m, o, rfl, _⟩ := h
    rfl
  · obtain ⟨S, D, b, n, m, o, rfl, d, b2, b6, n1, n2, q⟩ := h
    refine ⟨_, PSs.nox (pss_cons (ps_set (i := 5) sc__law_downhill.nd rfl (Or.inl rfl) (pe_lst pa_nil))
      (pss_cons (ps_for PassesOwn.never rfl (pi_range1 (by rfl) T.b_range (pa_cons (pv 2) pa_nil)) (pg_name (i := 6) sc__law_downhill.nd rfl (Or.inl rfl)) (pss_cons (ps_set (i := 7) sc__law_downhill.nd rfl (Or.inl rfl) (pe_lst pa_nil))
      (pss_cons (ps_for PassesOwn.never rfl (pi_list (pe_d D__law_words (hr.mono (by decide)) (by rfl) (pa_cons (pv 0) (pa_cons (pv 1) (pa_cons (pe_d D__law_draw (hr.mono (by decide)) (by rfl) (pa_cons (pv 0) (pa_cons pe_int pa_nil))) pa_nil))))) (pg_name (i := 8) sc__law_downhill.nd rfl (Or.inl rfl)) (pss_one (ps_if (PW.pt (pw_or (pt_cmpR op_eq (pv 6) (pe_op op_sub (pv 2) pe_int) (nomark _)) (pw_or1 (pt_cmpR op_eq (pe_d D__law_draw (hr.mono (by decide)) (by rfl) (pa_cons (pv 0) (pa_cons pe_int pa_nil))) pe_int (nomark _))))) (pss_one (ps_expr (pe_bm PySem.F.plainAttrs_list PySem.F.slot_list_append PySem.F.type_list_append mt_append (pv 7) (pa_cons (pe_tup (pa_cons (pv 8) (pa_cons (pe_d D__law_pick (hr.mono (by decide)) (by rfl) (pa_cons (pv 0) (pa_cons (pe_lst (pa_cons (pe_tup (pa_cons (pv 3) pa_nil)) (pa_cons (pe_tup (pa_cons (pv 4) (pa_cons (pv 3) pa_nil))) (pa_cons (pe_tup (pa_cons (pv 3) (pa_cons (pv 3) pa_nil))) pa_nil)))) pa_nil))) (pa_cons (pe_d D__law_draw (hr.mono (by decide)) (by rfl) (pa_cons (pv 0) (pa_cons (pv 2) pa_nil))) pa_nil)))) pa_nil)))) (pss_one (ps_expr (pe_bm PySem.F.plainAttrs_list PySem.F.slot_list_append PySem.F.type_list_append mt_append (pv 7) (pa_cons (pe_tup (pa_cons (pv 8) (pa_cons (pe_d D__law_pick (hr.mono (by decide)) (by rfl) (pa_cons (pv 0) (pa_cons (pe_lst (pa_cons (pe_tup pa_nil) (pa_cons (pe_tup (pa_cons (pv 4) pa_nil)) pa_nil))) pa_nil))) (pa_cons (pe_op op_add (pe_op op_add (pv 6) pe_int) (pe_d D__law_draw (hr.mono (by decide)) (by rfl) (pa_cons (pv 0) (pa_cons (pe_op op_sub (pe_op op_sub (pv 2) pe_int) (pv 6)) pa_nil)))) pa_nil)))) pa_nil)))))))
      (pss_one (ps_expr (pe_bm PySem.F.plainAttrs_list PySem.F.slot_list_append PySem.F.type_list_append mt_append (pv 5) (pa_cons (pe_callTy call_tuple_of (by rfl) T.b_tuple (by decide +kernel) (pa_cons (pv 7) pa_nil)) pa_nil)))))))
      (pss_one (ps_ret (pv 5))))), ?_⟩
    refine ⟨Nat.zero_le _, fun L hL => ?_⟩
    have g1 := Go.new (o := .lst []) d hL
    have LD := (d.free hL).1
    refine ⟨_, rfl, _, rfl, by omega, by omega, for_range (lo := 0) (n := n.toNat) (fun i σ H' => ∃ (y6 y7 y8 : Option V) (zs : List V) (C : Chn), σ = [some (.ref D), some (.int b), some (.int n), some (.str m), some (.str o), some (.ref L), y6, y7, y8] ∧ Go S D H H' ∧ H' L = some (.lst zs) ∧ DpAll K H' zs (C.map dRw) ∧ C.length = i ∧ ∀ r ∈ C, RwOk b n.toNat r) ⟨_, _, _, [], [], rfl, g1, upd_same, .nil, rfl, fun _ h => absurd h List.not_mem_nil⟩ ?_ ?_⟩
    · rintro i σ H1 hi ⟨y6, y7, y8, zs, C, rfl, g, hL1, hzs, hC, hCr⟩
      have zl := dpA_len hzs
      rw [List.length_map] at zl
      refine ⟨Nat.zero_le _, fun f hf => ?_⟩
      have gf := Go.new (o := .lst []) g.1 hf
      have fD := (g.1.free hf).1
      have fL : f ≠ L := (ne_of_none hL1 hf).symm
      have hf2 := upd_same (H := H1) (a := f) (o := .lst [])
      generalize upd H1 f (.lst []) = H2 at gf hf2
      refine ⟨_, rfl, _, rfl, _, rfl, S, D, 3, rfl, divW_of (by decide) (by decide), gf.1, fun H3 mm m0 m1 g3 => ⟨S, D, b, mm, rfl, g3.1, b2, b6, m0, by omega, fun H4 Lw xs ws g4 hLw0 hLw hA hc w0 w1 => ?_⟩⟩
      have g34 := gf.trans (g3.trans g4)
      have LwD := (g3.1.free hLw0).1
      have hf4 := (g3.trans g4).2 _ _ hf2 fD
      have LwF : Lw ≠ f := fun e => by
        rw [e, g3.2 _ _ hf2 fD] at hLw0
        cases hLw0
      have xl := dpA_len hA
      rw [List.length_map] at xl
      refine ⟨Lw, rfl, ⟨_, SqL.of hLw⟩, for_list (K := K) (a := Lw) (xs := xs) (fun j σ H' => ∃ (y8 : Option V) (qs : List V) (r : List Br), σ = [some (.ref D), some (.int b), some (.int n), some (.str m), some (.str o), some (.ref L), some (.int (0 + (i : Int))), some (.ref f), y8] ∧ Go S D H1 H' ∧ H' Lw = some (.lst xs) ∧ DpAll K H' xs (ws.map dI) ∧ H' f = some (.lst qs) ∧ DpAll K H' qs (r.map dBr) ∧ r.map (·.1) = ws.take j ∧ ∀ b ∈ r, b.2.2 < n.toNat ∧ b.2.1.length ≤ 6) ⟨_, [], [], rfl, g34, hLw, hA, hf4, .nil, rfl, fun _ h => absurd h List.not_mem_nil⟩ (fun i σ H' _ ⟨_, _, _, _, _, h, _⟩ => SqL.of h) ?_ ?_⟩
      · rintro j x σ H5 hj ⟨y8, qs, r, rfl, g5, hLw5, hA5, hf5, hr5, er, hrr⟩
        obtain ⟨wd, hw, hx⟩ := dpA_mem hA5 hj
        have jl := (List.getElem?_eq_some_iff.mp hj).1
        have ql := dpA_len hr5
        rw [List.length_map] at ql
        have rl : r.length = j := by
          have := congrArg List.length er
          rw [List.length_map, List.length_take] at this
          omega
        have addb : ∀ (H7 : Hp) (p pb : Addr) (ss : List Str) (t : Int), Go S D H5 H7 → Dp K H7 (.ref p) (dSh ss) → ss.length ≤ 6 → 0 ≤ t → t < n → H7 pb = none → upd H7 pb (.tup [x, .ref p, .int t]) f = some (.lst qs) ∧ qs.length < sizeLine ∧
            ∃ r' : List Br, Go S D H1 (upd (upd H7 pb (.tup [x, .ref p, .int t])) f (.lst (qs ++ [.ref pb]))) ∧ upd (upd H7 pb (.tup [x, .ref p, .int t])) f (.lst (qs ++ [.ref pb])) Lw = some (.lst xs) ∧ DpAll K (upd (upd H7 pb (.tup [x, .ref p, .int t])) f (.lst (qs ++ [.ref pb]))) xs (ws.map dI) ∧ upd (upd H7 pb (.tup [x, .ref p, .int t])) f (.lst (qs ++ [.ref pb])) f = some (.lst (qs ++ [.ref pb])) ∧ DpAll K (upd (upd H7 pb (.tup [x, .ref p, .int t])) f (.lst (qs ++ [.ref pb]))) (qs ++ [.ref pb]) (r'.map dBr) ∧ r'.map (·.1) = ws.take (j + 1) ∧ ∀ b ∈ r', b.2.2 < n.toNat ∧ b.2.1.length ≤ 6 := by
          intro H7 p pb ss t g7 hss hsl t0 t1 hpb
          have gb := g7.trans (Go.new (o := .tup [x, .ref p, .int t]) g7.1 hpb)
          have hpb8 := upd_same (H := H7) (a := pb) (o := .tup [x, .ref p, .int t])
          have hp8 := dp_keep (Go.keepT g7.1 (Go.new (o := .tup [x, .ref p, .int t]) g7.1 hpb)) _ _ (dSh_noL ss) hss
          generalize upd H7 pb (.tup [x, .ref p, .int t]) = H8 at gb hpb8 hp8
          have k8 := Go.keepT g5.1 gb
          have hf8 := gb.2 _ _ hf5 fD
          have kf := keepT_nt (o := .lst (qs ++ [.ref pb])) (nt_lst _) hf8
          have dB : Dp K H8 (.ref pb) (dBr (wd, ss, t.toNat)) := by
            have e1 : PyData.int ((t.toNat : Nat) : Int) = .int t := by rw [Int.toNat_of_nonneg t0]
            show Dp K H8 (.ref pb) (.tuple [dI wd, dSh ss, .int ((t.toNat : Nat) : Int)])
            rw [e1]
            exact .tup (SqT.of hpb8) (.cons (dp_keep k8 _ _ (dI_noL wd) hx) (.cons hp8 (.cons (.int _) .nil)))
          refine ⟨hf8, line6 (by omega), r ++ [(wd, ss, t.toNat)], goU hf g.1 (g5.trans gb), ?_, dpA_keep kf _ _ (noLs_I ws) (dpA_keep k8 _ _ (noLs_I ws) hA5), upd_same, ?_, ?_, fun y hy => ?_⟩
          · rw [upd_ne LwF]
            exact gb.2 _ _ hLw5 LwD
          · rw [List.map_append]
            exact dpA_snoc (dpA_keep kf _ _ (noLs_br r) (dpA_keep k8 _ _ (noLs_br r) hr5)) (dp_keep kf _ _ (dBr_noL _) dB)
          · rw [List.map_append, er, List.take_add_one, hw]
            rfl
          · rcases List.mem_append.mp hy with h | h
            · exact hrr y h
            · rw [List.mem_singleton.mp h]
              exact ⟨by show t.toNat < n.toNat; omega, hsl⟩
        refine ⟨_, rfl, _, rfl, _, _, rfl, rfl, rfl, _, rfl, ite2 (fun _ => ?_) (fun hne => ⟨_, rfl, S, D, 4, rfl, divW_of (by decide) (by decide), g5.1, fun H6 v v0 v1 g6 => ⟨rfl, _, rfl, ite2 (fun _ => ?_) (fun _ => ?_)⟩⟩)⟩
        · have g6 := Go.refl g5.1
          refine ⟨_, rfl, .inl ⟨rfl, _, SqL.of (g6.2 _ _ hf5 fD)⟩, _, rfl, _, rfl, _, rfl, by show 1 ≤ sizeLine; decide, fun p1 hp1 => ⟨_, rfl, _, rfl, by show 2 ≤ sizeLine; decide, fun p2 hp2 => ⟨_, rfl, _, rfl, by show 2 ≤ sizeLine; decide, fun p3 hp3 => ⟨by show 3 ≤ sizeLine; decide, fun l hl0 => ?_⟩⟩⟩⟩
          have u1 := same_new (o := .tup [.str m]) hp1
          have u2 := same_new (o := .tup [.str o, .str m]) hp2
          have u3 := same_new (o := .tup [.str m, .str m]) hp3
          have u4 := same_new (o := .lst [.ref p1, .ref p2, .ref p3]) hl0
          have a1 := (u2.trans (u3.trans u4)) _ _ (upd_same (H := H5) (a := p1) (o := .tup [.str m]))
          have a2 := (u3.trans u4) _ _ (upd_same (H := upd H5 p1 (.tup [.str m])) (a := p2) (o := .tup [.str o, .str m]))
          have a3 := u4 _ _ (upd_same (H := upd (upd H5 p1 (.tup [.str m])) p2 (.tup [.str o, .str m])) (a := p3) (o := .tup [.str m, .str m]))
          have a4 := upd_same (H := upd (upd (upd H5 p1 (.tup [.str m])) p2 (.tup [.str o, .str m])) p3 (.tup [.str m, .str m])) (a := l) (o := .lst [.ref p1, .ref p2, .ref p3])
          have g7 := g6.trans (Go.same g6.1 (u1.trans (u2.trans (u3.trans u4))))
          have lD := ((Go.same g6.1 (u1.trans (u2.trans u3))).1.free hl0).1
          generalize upd (upd (upd (upd H5 p1 (.tup [.str m])) p2 (.tup [.str o, .str m])) p3 (.tup [.str m, .str m])) l (.lst [.ref p1, .ref p2, .ref p3]) = H7 at a1 a2 a3 a4 g7
          refine ⟨S, D, .ref l, _, rfl, g7.1, fun H' g => .inr (.inl ⟨l, rfl, SqL.of (g.2 _ _ a4 lD)⟩), by show 0 < 3; decide, by show 3 ≤ 100000; decide, fun H8 y hy g8 => ?_⟩
          obtain ⟨p, ss, rfl, hsl, hss⟩ : ∃ p ss, y = .ref p ∧ ss.length ≤ 6 ∧ Dp K H8 (.ref p) (dSh ss) := by
            have k := Go.keepT g7.1 g8
            simp only [List.mem_cons, List.not_mem_nil, or_false] at hy
            rcases hy with e | e | e
            · exact ⟨p1, [m], e, by show 1 ≤ 6; decide, sh_of (sqt_keep k (SqT.of a1))⟩
            · exact ⟨p2, [o, m], e, by show 2 ≤ 6; decide, sh_of (sqt_keep k (SqT.of a2))⟩
            · exact ⟨p3, [m, m], e, by show 2 ≤ 6; decide, sh_of (sqt_keep k (SqT.of a3))⟩
          refine ⟨_, rfl, _, rfl, S, D, n, rfl, divW_of (by omega) (by omega), g8.1, fun H9 t t0 t1 g9 => ⟨by show 3 ≤ sizeLine; decide, fun pb hpb => ?_⟩⟩
          obtain ⟨c1, c2, r', c3, c4, c5, c6, c7, c8, c9⟩ := addb H9 p pb ss t ((g7.trans g8).trans g9) (dp_keep (Go.keepT g8.1 g9) _ _ (dSh_noL ss) hss) hsl t0 t1 hpb
          exact ⟨f, qs, _, rfl, rfl, c1, c2, _, qs ++ [.ref pb], r', rfl, c3, c4, c5, c6, c7, c8, c9⟩
        · refine ⟨_, rfl, .inl ⟨rfl, _, SqL.of (g6.2 _ _ hf5 fD)⟩, _, rfl, _, rfl, _, rfl, by show 1 ≤ sizeLine; decide, fun p1 hp1 => ⟨_, rfl, _, rfl, by show 2 ≤ sizeLine; decide, fun p2 hp2 => ⟨_, rfl, _, rfl, by show 2 ≤ sizeLine; decide, fun p3 hp3 => ⟨by show 3 ≤ sizeLine; decide, fun l hl0 => ?_⟩⟩⟩⟩
          have u1 := same_new (o := .tup [.str m]) hp1
          have u2 := same_new (o := .tup [.str o, .str m]) hp2
          have u3 := same_new (o := .tup [.str m, .str m]) hp3
          have u4 := same_new (o := .lst [.ref p1, .ref p2, .ref p3]) hl0
          have a1 := (u2.trans (u3.trans u4)) _ _ (upd_same (H := H6) (a := p1) (o := .tup [.str m]))
          have a2 := (u3.trans u4) _ _ (upd_same (H := upd H6 p1 (.tup [.str m])) (a := p2) (o := .tup [.str o, .str m]))
          have a3 := u4 _ _ (upd_same (H := upd (upd H6 p1 (.tup [.str m])) p2 (.tup [.str o, .str m])) (a := p3) (o := .tup [.str m, .str m]))
          have a4 := upd_same (H := upd (upd (upd H6 p1 (.tup [.str m])) p2 (.tup [.str o, .str m])) p3 (.tup [.str m, .str m])) (a := l) (o := .lst [.ref p1, .ref p2, .ref p3])
          have g7 := g6.trans (Go.same g6.1 (u1.trans (u2.trans (u3.trans u4))))
          have lD := ((Go.same g6.1 (u1.trans (u2.trans u3))).1.free hl0).1
          generalize upd (upd (upd (upd H6 p1 (.tup [.str m])) p2 (.tup [.str o, .str m])) p3 (.tup [.str m, .str m])) l (.lst [.ref p1, .ref p2, .ref p3]) = H7 at a1 a2 a3 a4 g7
          refine ⟨S, D, .ref l, _, rfl, g7.1, fun H' g => .inr (.inl ⟨l, rfl, SqL.of (g.2 _ _ a4 lD)⟩), by show 0 < 3; decide, by show 3 ≤ 100000; decide, fun H8 y hy g8 => ?_⟩
          obtain ⟨p, ss, rfl, hsl, hss⟩ : ∃ p ss, y = .ref p ∧ ss.length ≤ 6 ∧ Dp K H8 (.ref p) (dSh ss) := by
            have k := Go.keepT g7.1 g8
            simp only [List.mem_cons, List.not_mem_nil, or_false] at hy
            rcases hy with e | e | e
            · exact ⟨p1, [m], e, by show 1 ≤ 6; decide, sh_of (sqt_keep k (SqT.of a1))⟩
            · exact ⟨p2, [o, m], e, by show 2 ≤ 6; decide, sh_of (sqt_keep k (SqT.of a2))⟩
            · exact ⟨p3, [m, m], e, by show 2 ≤ 6; decide, sh_of (sqt_keep k (SqT.of a3))⟩
          refine ⟨_, rfl, _, rfl, S, D, n, rfl, divW_of (by omega) (by omega), g8.1, fun H9 t t0 t1 g9 => ⟨by show 3 ≤ sizeLine; decide, fun pb hpb => ?_⟩⟩
          obtain ⟨c1, c2, r', c3, c4, c5, c6, c7, c8, c9⟩ := addb H9 p pb ss t ((g7.trans g8).trans g9) (dp_keep (Go.keepT g8.1 g9) _ _ (dSh_noL ss) hss) hsl t0 t1 hpb
          exact ⟨f, qs, _, rfl, rfl, c1, c2, _, qs ++ [.ref pb], r', rfl, c3, c4, c5, c6, c7, c8, c9⟩
        · have hne' : ¬ (0 + (i : Int)) = n - 1 := fun e => hne (by rw [e]; exact decide_eq_true rfl)
          refine ⟨_, rfl, .inl ⟨rfl, _, SqL.of (g6.2 _ _ hf5 fD)⟩, _, rfl, _, rfl, Nat.zero_le _, fun p1 hp1 => ⟨_, rfl, by show 1 ≤ sizeLine; decide, fun p2 hp2 => ⟨by show 2 ≤ sizeLine; decide, fun l hl0 => ?_⟩⟩⟩
          have u1 := same_new (o := .tup []) hp1
          have u2 := same_new (o := .tup [.str o]) hp2
          have u4 := same_new (o := .lst [.ref p1, .ref p2]) hl0
          have a1 := (u2.trans u4) _ _ (upd_same (H := H6) (a := p1) (o := .tup []))
          have a2 := u4 _ _ (upd_same (H := upd H6 p1 (.tup [])) (a := p2) (o := .tup [.str o]))
          have a4 := upd_same (H := upd (upd H6 p1 (.tup [])) p2 (.tup [.str o])) (a := l) (o := .lst [.ref p1, .ref p2])
          have g7 := g6.trans (Go.same g6.1 (u1.trans (u2.trans u4)))
          have lD := ((Go.same g6.1 (u1.trans u2)).1.free hl0).1
          generalize upd (upd (upd H6 p1 (.tup [])) p2 (.tup [.str o])) l (.lst [.ref p1, .ref p2]) = H7 at a1 a2 a4 g7
          refine ⟨S, D, .ref l, _, rfl, g7.1, fun H' g => .inr (.inl ⟨l, rfl, SqL.of (g.2 _ _ a4 lD)⟩), by show 0 < 2; decide, by show 2 ≤ 100000; decide, fun H8 y hy g8 => ?_⟩
          obtain ⟨p, ss, rfl, hsl, hss⟩ : ∃ p ss, y = .ref p ∧ ss.length ≤ 6 ∧ Dp K H8 (.ref p) (dSh ss) := by
            have k := Go.keepT g7.1 g8
            simp only [List.mem_cons, List.not_mem_nil, or_false] at hy
            rcases hy with e | e
            · exact ⟨p1, [], e, by show 0 ≤ 6; decide, sh_of (sqt_keep k (SqT.of a1))⟩
            · exact ⟨p2, [o], e, by show 1 ≤ 6; decide, sh_of (sqt_keep k (SqT.of a2))⟩
          refine ⟨_, rfl, _, _, rfl, rfl, _, rfl, _, rfl, _, _, rfl, rfl, _, rfl, _, _, rfl, rfl, S, D, _, rfl, divW_of (by omega) (by omega), g8.1, fun H9 t t0 t1 g9 => ⟨_, _, rfl, rfl, by show 3 ≤ sizeLine; decide, fun pb hpb => ?_⟩⟩
          obtain ⟨c1, c2, r', c3, c4, c5, c6, c7, c8, c9⟩ := addb H9 p pb ss (0 + (i : Int) + 1 + t) ((g7.trans g8).trans g9) (dp_keep (Go.keepT g8.1 g9) _ _ (dSh_noL ss) hss) hsl (by omega) (by omega) hpb
          exact ⟨f, qs, _, rfl, rfl, c1, c2, _, qs ++ [.ref pb], r', rfl, c3, c4, c5, c6, c7, c8, c9⟩
      · rintro σ H5 ⟨y8, qs, r, rfl, g5, hLw5, hA5, hf5, hr5, er, hrr⟩
        rw [xl, List.take_length] at er
        have rl : r.length = ws.length := by
          rw [← er, List.length_map]
        have gg := g.trans g5
        have hL5 := g5.2 _ _ hL1 LD
        refine ⟨_, rfl, .inl ⟨rfl, _, SqL.of hL5⟩, _, rfl, f, qs, rfl, .inl ⟨SqL.of hf5, fun pr hpr => ?_⟩⟩
        have gp := Go.new (o := .tup qs) g5.1 hpr
        have kp := Go.keepT g5.1 gp
        have hpr6 := upd_same (H := H5) (a := pr) (o := .tup qs)
        have hL6 := gp.2 _ _ hL5 LD
        generalize upd H5 pr (.tup qs) = H6 at gp kp hpr6 hL6
        have kL := keepT_nt (o := .lst (zs ++ [.ref pr])) (nt_lst _) hL6
        refine ⟨L, zs, _, rfl, rfl, hL6, line6 (by omega), _, _, _, zs ++ [.ref pr], C ++ [r], rfl, goU hL d (gg.trans gp), upd_same, ?_, by rw [List.length_append, hC]; rfl, fun x hx => ?_⟩
        · rw [List.map_append]
          exact dpA_snoc (dpA_keep kL _ _ (noLs_rw C) (dpA_keep (Go.keepT g.1 (g5.trans gp)) _ _ (noLs_rw C) hzs)) (dp_keep kL _ _ (dRw_noL _) (.tup (SqT.of hpr6) (dpA_keep kp _ _ (noLs_br r) hr5)))
        · rcases List.mem_append.mp hx with h | h
          · exact hCr x h
          · rw [List.mem_singleton.mp h]
            exact ⟨by omega, by omega, hrr, by rw [er]; exact hc⟩
    · rintro σ H1 ⟨y6, y7, y8, zs, C, rfl, g, hL1, hzs, hC, hCr⟩
      exact ⟨_, rfl, q _ L zs C g hL hL1 hzs ⟨hC, hCr⟩⟩
end
end Mt
namespace Mt
open PySem PySem.Spec PyProof.Rows L2
theorem mtIxK {X : Cx} {K : PySem.W.Frag} (h : X.K = K) : MtR X "list.index" (rIndex K) := h ▸ mt_index
theorem castBM {X : Cx} {K : PySem.W.Frag} {e : Expr} {T : String} {r : V → List V → Hp → VK → Prop} {to : TE} {t : TA} (h : X.K = K) (p : PE X e (tBM X.K T r to t)) : PE X e (tBM K T r to t) := h ▸ p
theorem first_at {l : List Nat} {t : Nat} (h : t ∈ l) : ∃ j : Nat, l[j]? = some t ∧ ∀ (m z : Nat), m < j → l[m]? = some z → z ≠ t := by
  induction l with
  | nil => exact absurd h List.not_mem_nil
  | cons a r ih =>
    by_cases e : a = t
    · exact ⟨0, by rw [← e]; rfl, fun m z hm => absurd hm (Nat.not_lt_zero m)⟩
    · rcases List.mem_cons.mp h with k | k
      · exact absurd k.symm e
      · obtain ⟨j, h1, h2⟩ := ih k
        refine ⟨j + 1, by simpa using h1, fun m z hm hz => ?_⟩
        cases m with
        | zero =>
          have : a = z := Option.some.inj hz
          rw [← this]
          exact e
        | succ m => exact h2 m z (by omega) (by simpa using hz)
def vN (k : Nat) : V := .int (k : Int)
theorem flat_vN (os : List Nat) : (os.map vN).all flatV = true := by
  rw [List.all_map]
  exact List.all_eq_true.mpr fun _ _ => rfl
def spTurn (K : PySem.W.Frag) : Sp := fun vs H Q _ => ∃ (S D L : Addr) (base : Int) (n : Nat) (zs : List V) (C : Chn), vs = [.ref D, .ref L] ∧ DrawAt S D H ∧ L ≠ D ∧ H L = some (.lst zs) ∧ DpAll K H zs (C.map dRw) ∧ RsOk base n C ∧ 1 ≤ n ∧ n ≤ 50 ∧
  ∀ (H' : Hp) (L' : Addr) (zs' : List V) (C' : Chn), Go S D H H' → H L' = none → H' L' = some (.lst zs') → DpAll K H' zs' (C'.map dRw) → RsOk base n C' → Q (.ref L') H'
theorem ord_of {n : Nat} {ys : List V} (h1 : 1 ≤ n) (h : ys.Perm (rgV 1 (n : Int))) : ∃ os : List Nat, os.Perm (List.range n) ∧ [V.int 0] ++ ys = os.map vN := by
  unfold rgV at h
  obtain ⟨l, hl, rfl⟩ := perm_back h
  have e : ((n : Int) - 1).toNat = n - 1 := by omega
  rw [e] at hl
  refine ⟨0 :: l.map (· + 1), ?_, ?_⟩
  · obtain ⟨m, rfl⟩ : ∃ m, n = m + 1 := ⟨n - 1, by omega⟩
    rw [List.range_succ_eq_map]
    exact (hl.map (· + 1)).cons 0
  · rw [List.map_cons, List.map_map]
    show V.int 0 :: _ = V.int ((0 : Nat) : Int) :: _
    congr 1
    refine List.map_congr_left fun i _ => ?_
    show V.int (1 + (i : Int)) = V.int (((i + 1 : Nat)) : Int)
    congr 1
    omega
section
variable {P : Program} {w : World} {K : PySem.W.Frag} {mg : Str → Option Value} {base : Heap}
theorem ok__law_turned (T : Txt K mg) (D__law_shuffled : Kept P w K mg base 2 "_law_shuffled" ["d", "row"] (spShufP K)) {f : Addr} {fd : FuncData} (F : FnP K "_law_turned" s__law_turned f fd) : FnOk P w K mg base CX0 3 f fd ["d", "rows"] (spTurn K) := by
  refine F.ok sc__law_turned (fun vs H Q E h => ?_) (fun cdv A outer s H vs Q E hr h => ?_)
  · obtain ⟨S, D, L, b, n, zs, C, rfl, _⟩ := h
    rfl
  · obtain ⟨S, D, L, b, n, zs, C, rfl, d, LD, hL, hzs, ok, n1, n2, q⟩ := h
    refine ⟨_, PSs.nox (pss_cons (ps_set (i := 2) sc__law_turned.nd rfl (Or.inl rfl) (pe_callB call_len (by rfl) T.b_len (by decide +kernel) (pa_cons (pv 1) pa_nil)))
      (pss_cons (ps_set (i := 3) sc__law_turned.nd rfl (Or.inr rfl) (pe_op op_cat (pe_lst (pa_cons pe_int pa_nil)) (pe_d D__law_shuffled (hr.mono (by decide)) (by rfl) (pa_cons (pv 0) (pa_cons (pe_listRg rfl rfl T.b_list (prg_2 rfl T.b_range pe_int (pv 2))) pa_nil)))))
      (pss_cons (ps_set (i := 4) sc__law_turned.nd rfl (Or.inl rfl) (pe_lst pa_nil))
      (pss_cons (ps_for PassesOwn.never rfl (pi_list (pv 3)) (pg_name (i := 5) sc__law_turned.nd rfl (Or.inl rfl)) (pss_one (ps_expr (pe_bm PySem.F.plainAttrs_list PySem.F.slot_list_append PySem.F.type_list_append mt_append (pv 4) (pa_cons (pe_callTy (tupOfT (K := K) rfl) (by rfl) T.b_tuple (by decide +kernel) (pa_cons (pe_lc (own := [("digits", 6), ("shown", 7), ("there", 8)]) (g := (gTup K 3 (gCons (gName 6) (gCons (gName 7) (gCons (gName 8) gNil))))) (tt := tYes) rfl sc__law_turned.nd (pi_tup (pe_ix ix_list (pv 1) (pv 5) (fun _ _ => rfl))) (blkOk_by (N := N__law_turned) (sc := defScope s__law_turned) (by decide +kernel)) (fun _ _ _ _ _ => (pg_tup rfl (pgs_cons (pg_name (i := 6) sc__law_turned.nd rfl (Or.inl rfl)) (pgs_cons (pg_name (i := 7) sc__law_turned.nd rfl (Or.inl rfl)) (pgs_cons (pg_name (i := 8) sc__law_turned.nd rfl (Or.inl rfl)) pgs_nil))))) (fun _ _ _ _ _ => pts_nil) (fun _ _ _ _ _ => (pe_tup (pa_cons (pv 6) (pa_cons (pv 7) (pa_cons (castBM (K := K) rfl (pe_bm PySem.F.plainAttrs_list PySem.F.slot_list_index PySem.F.type_list_index (mtIxK (K := K) rfl) (pv 3) (pa_cons (pv 8) pa_nil))) pa_nil)))))) pa_nil)) pa_nil)))))
      (pss_one (ps_ret (pv 4))))))), ?_⟩
    have zl := dpA_len hzs
    rw [List.length_map, ok.len] at zl
    refine ⟨_, rfl, _, _, rfl, .inl ⟨_, SqL.of hL, rfl⟩, ?_⟩
    rw [zl]
    refine ⟨by show 1 ≤ sizeLine; decide, fun q0 hq0 => ?_⟩
    have g0 := Go.new (o := .lst [.int 0]) d hq0
    have q0D := (d.free hq0).1
    have hq01 := upd_same (H := H) (a := q0) (o := .lst [.int 0])
    generalize upd H q0 (.lst [.int 0]) = H1 at g0 hq01
    refine ⟨_, rfl, _, rfl, 1, (n : Int), rfl, rfl, RgOk.of_le (by decide) (by omega) (by decide) (by omega), fun q1 hq1 => ?_⟩
    have g1 := g0.trans (Go.new (o := .lst (rgV 1 (n : Int))) g0.1 hq1)
    have hq11 := upd_same (H := H1) (a := q1) (o := .lst (rgV 1 (n : Int)))
    have hq02 := same_new (o := .lst (rgV 1 (n : Int))) hq1 _ _ hq01
    generalize upd H1 q1 (.lst (rgV 1 (n : Int))) = H2 at g1 hq11 hq02
    refine ⟨S, D, q1, _, rfl, g1.1, SqL.of hq11, by rw [rgV_length]; omega, fun H3 q2 ys g3 hq20 hq2 hp => ?_⟩
    obtain ⟨os, hos, eos⟩ := ord_of n1 hp
    have yl := hp.length_eq
    rw [rgV_length] at yl
    refine ⟨q0, q2, _, ys, rfl, rfl, g3.2 _ _ hq02 q0D, hq2, line5 (by show 1 + _ ≤ _; omega), fun Lo hLo => ?_⟩
    rw [eos]
    have osl : os.length = n := by rw [hos.length_eq, List.length_range]
    have g4 := (g1.trans g3).trans (Go.new (o := .lst (os.map vN)) g3.1 hLo)
    have LoD := (g3.1.free hLo).1
    have hLo4 := upd_same (H := H3) (a := Lo) (o := .lst (os.map vN))
    generalize upd H3 Lo (.lst (os.map vN)) = H4 at g4 hLo4
    refine ⟨Nat.zero_le _, fun f hf => ?_⟩
    have f0 := g4.free d hf
    have g5 := g4.trans (Go.new (o := .lst []) g4.1 hf)
    have hLo5 := same_new (o := .lst []) hf _ _ hLo4
    have hf5 := upd_same (H := H4) (a := f) (o := .lst [])
    have fLo : f ≠ Lo := (ne_of_none hLo4 hf).symm
    have fD := (g4.1.free hf).1
    generalize upd H4 f (.lst []) = H5 at g5 hLo5 hf5
    have fL : f ≠ L := (ne_of_none hL f0).symm
    refine ⟨_, rfl, Lo, rfl, ⟨_, SqL.of hLo5⟩, for_list (K := K) (a := Lo) (xs := os.map vN) (fun i σ H' => ∃ (y5 : Option V) (qs : List V) (C' : Chn), σ = [some (.ref D), some (.ref L), some (.int n), some (.ref Lo), some (.ref f), y5, none, none, none] ∧ Go S D H H' ∧ H' Lo = some (.lst (os.map vN)) ∧ H' f = some (.lst qs) ∧ DpAll K H' qs (C'.map dRw) ∧ C'.length = i ∧ ∀ r ∈ C', RwOk b n r) ⟨_, [], [], rfl, g5, hLo5, hf5, .nil, rfl, fun _ h => absurd h List.not_mem_nil⟩ (fun i σ H' _ ⟨_, _, _, _, _, h, _⟩ => SqL.of h) ?_ ?_⟩
    · rintro i x σ H6 hi ⟨y5, qs, C', rfl, g6, hLo6, hf6, hqs, hC', okC'⟩
      obtain ⟨sI, hsI, rfl⟩ : ∃ sI, os[i]? = some sI ∧ vN sI = x := by
        rw [List.getElem?_map] at hi
        cases e : os[i]? with
        | none =>
          rw [e] at hi
          cases hi
        | some z =>
          rw [e] at hi
          exact ⟨z, rfl, Option.some.inj hi⟩
      have il := (List.getElem?_eq_some_iff.mp hsI).1
      have sn : sI < C.length := by
        rw [ok.len]
        exact List.mem_range.mp (hos.mem_iff.mp (List.mem_of_getElem? hsI))
      obtain ⟨xr, hxr, hdr⟩ := dpA_get (dpA_keep (Go.keepT d g6) _ _ (noLs_rw C) hzs) (rowOf_at sn)
      obtain ⟨pr, rs, rfl, hpr, hrs⟩ := dp_tup hdr
      have rl := dpA_len hrs
      rw [List.length_map] at rl
      have okr := ok.row _ (List.mem_of_getElem? (rowOf_at sn))
      have few := okr.few
      have ql := dpA_len hqs
      rw [List.length_map] at ql
      have hL6 := g6.2 _ _ hL LD
      refine ⟨_, rfl, .inl ⟨rfl, _, SqL.of hf6⟩, _, rfl, _, rfl, L, zs, _, _, rfl, rfl, SqL.of hL6, atI_nat hxr, pr, rfl, ⟨_, hpr⟩, fun M hM => lc_tup (K := K) (a := pr) (xs := rs) (fun j H' => Same H6 H' ∧ ∃ (us : List V) (r' : List Br), H' M = some (.lst us) ∧ DpAll K H' us (r'.map dBr) ∧ r'.map (·.1) = ((rowOf C sI).map (·.1)).take j ∧ ∀ b ∈ r', b.2.2 < n ∧ b.2.1.length ≤ 6) ⟨same_new hM, [], [], upd_same, .nil, rfl, fun _ h => absurd h List.not_mem_nil⟩ (fun j H' _ e => same_t e.1 hpr) ?_ ?_⟩
      · rintro j y H7 hj ⟨s7, us, r', hM7, hus, er, hr'⟩
        obtain ⟨br, hbr, hy⟩ := dpA_mem hrs hj
        obtain ⟨pb, x0, x1, rfl, hpb, hd0, hd1⟩ := br_at hy
        have okb := okr.to br (List.mem_of_getElem? hbr)
        have jl := (List.getElem?_eq_some_iff.mp hbr).1
        have ul := dpA_len hus
        rw [List.length_map] at ul
        have rl' : r'.length = j := by
          have := congrArg List.length er
          rw [List.length_map, List.length_take, List.length_map] at this
          omega
        obtain ⟨at', ha1, ha2⟩ := first_at (hos.mem_iff.mpr (List.mem_range.mpr okb.1))
        have atl := (List.getElem?_eq_some_iff.mp ha1).1
        refine ⟨_, _, rfl, same_t s7 hpb, rfl, _, _, rfl, _, _, rfl, _, _, rfl, rfl, rfl, ?_⟩
        refine ⟨_, rfl, _, rfl, _, rfl, .inl ⟨rfl, _, SqL.of (s7 _ _ hLo6)⟩, _, rfl, Lo, os.map vN, _, at', vN br.2.2, rfl, rfl, SqL.of (s7 _ _ hLo6), rfl, flat_vN os, by rw [List.getElem?_map, ha1]; rfl, ?_, ?_, by show 3 ≤ sizeLine; decide, fun pn hpn => ?_⟩
        · show (((br.2.2 : Nat) : Int) == ((br.2.2 : Nat) : Int)) = true
          exact beq_self_eq_true _
        · intro m z' hm hz
          rw [List.getElem?_map] at hz
          obtain ⟨z, hz2, rfl⟩ := Option.map_eq_some_iff.mp hz
          show (((z : Nat) : Int) == ((br.2.2 : Nat) : Int)) = false
          have := ha2 m z hm hz2
          refine beq_eq_false_iff_ne.mpr fun e => this ?_
          omega
        · have s8 := same_new (o := .tup [x0, x1, .int (at' : Int)]) hpn
          have hpn8 := upd_same (H := H7) (a := pn) (o := .tup [x0, x1, .int (at' : Int)])
          generalize upd H7 pn (.tup [x0, x1, .int (at' : Int)]) = H8 at s8 hpn8
          have hM8 := s8 _ _ hM7
          have kM := keepT_nt (o := .lst (us ++ [.ref pn])) (nt_lst _) hM8
          have s68 := s7.trans s8
          refine ⟨us, hM8, line6 (by omega), same_mut s68 hM, us ++ [.ref pn], r' ++ [(br.1, br.2.1, at')], upd_same, ?_, ?_, fun z hz => ?_⟩
          · rw [List.map_append]
            exact dpA_snoc (dpA_keep kM _ _ (noLs_br r') (dpA_same s8 _ _ hus)) (dp_keep kM _ _ (dBr_noL _) (.tup (SqT.of hpn8) (.cons (dp_same s68 _ _ hd0) (.cons (dp_same s68 _ _ hd1) (.cons (.int _) .nil)))))
          · rw [List.map_append, er, List.take_add_one, List.getElem?_map, hbr]
            rfl
          · rcases List.mem_append.mp hz with h | h
            · exact hr' z h
            · rw [List.mem_singleton.mp h]
              exact ⟨by show at' < n; omega, okb.2⟩
      · rintro H7 ⟨s7, us, r', hM7, hus, er, hr'⟩
        rw [rl, ← List.length_map (f := fun b : Br => b.1), List.take_length] at er
        have rl' : r'.length = (rowOf C sI).length := by
          have := congrArg List.length er
          rw [List.length_map, List.length_map] at this
          exact this
        refine ⟨M, us, rfl, .inl ⟨SqL.of hM7, fun pt hpt => ?_⟩⟩
        have s8 := same_new (o := .tup us) hpt
        have hpt8 := upd_same (H := H7) (a := pt) (o := .tup us)
        generalize upd H7 pt (.tup us) = H8 at s8 hpt8
        have s68 := s7.trans s8
        have hf8 := s68 _ _ hf6
        have kf := keepT_nt (o := .lst (qs ++ [.ref pt])) (nt_lst _) hf8
        refine ⟨f, qs, _, rfl, rfl, hf8, line6 (by omega), _, qs ++ [.ref pt], C' ++ [r'], rfl, goU f0 d (g6.trans (Go.same g6.1 s68)), ?_, upd_same, ?_, by rw [List.length_append, hC']; rfl, fun r hr => ?_⟩
        · rw [upd_ne fLo.symm]
          exact s68 _ _ hLo6
        · rw [List.map_append]
          exact dpA_snoc (dpA_keep kf _ _ (noLs_rw C') (dpA_same s68 _ _ hqs)) (dp_keep kf _ _ (dRw_noL _) (.tup (SqT.of hpt8) (dpA_same s8 _ _ hus)))
        · rcases List.mem_append.mp hr with h | h
          · exact okC' r h
          · rw [List.mem_singleton.mp h]
            exact ⟨by rw [rl']; exact okr.ne, by rw [rl']; exact okr.few, hr', by rw [er]; exact okr.cm⟩
    · rintro σ H6 ⟨y5, qs, C', rfl, g6, hLo6, hf6, hqs, hC', okC'⟩
      rw [List.length_map, osl] at hC'
      exact ⟨_, rfl, q _ f qs C' g6 f0 hf6 hqs ⟨hC', okC'⟩⟩
end
end Mt
namespace Mt
open PySem PySem.Spec PyProof.Rows L2
theorem cat_D {K : PySem.W.Frag} {H : Hp} {a b : Addr} {xs ys : List V} {ds es : List PyData} (ha : SqT K H a xs) (hb : SqT K H b ys) (h1 : DpAll K H xs ds) (h2 : DpAll K H ys es) (hl : ds.length + es.length ≤ 1000) : rCatA K (.ref a) (.ref b) H (fun v H' => Same H H' ∧ Dp K H' v (.tuple (ds ++ es))) := by
  have l1 := dpA_len h1
  have l2 := dpA_len h2
  refine ⟨a, b, xs, ys, rfl, rfl, ha, hb, line5 (by omega), fun e => ?_, fun _ e => ?_, fun _ _ p hp => ?_⟩
  · subst e
    have : ds = [] := List.length_eq_zero_iff.mp l1.symm
    subst this
    exact ⟨Same.refl _, .tup hb h2⟩
  · subst e
    have : es = [] := List.length_eq_zero_iff.mp l2.symm
    subst this
    rw [List.append_nil]
    exact ⟨Same.refl _, .tup ha h1⟩
  · have s := same_new (o := .tup (xs ++ ys)) hp
    exact ⟨s, .tup (SqT.of upd_same) (dpA_app (dpA_same s _ _ h1) (dpA_same s _ _ h2))⟩
theorem dpA_set {K : PySem.W.Frag} {H : Hp} : ∀ {ds : List PyData} {xs : List V} (j : Nat) {v : V} {d : PyData}, DpAll K H xs ds → Dp K H v d → DpAll K H (xs.set j v) (ds.set j d)
  | [], _, j, _, _, h, _ => by
    rw [dpA_nil h]
    exact .nil
  | d0 :: ds, _, 0, _, _, h, hv => by
    obtain ⟨x, r, rfl, h1, h2⟩ := dpA_cons h
    exact .cons hv h2
  | d0 :: ds, _, j + 1, _, _, h, hv => by
    obtain ⟨x, r, rfl, h1, h2⟩ := dpA_cons h
    exact .cons h1 (dpA_set j h2 hv)
theorem dpA_take {K : PySem.W.Frag} {H : Hp} : ∀ {ds : List PyData} {xs : List V} (j : Nat), DpAll K H xs ds → DpAll K H (xs.take j) (ds.take j)
  | [], _, j, h => by
    rw [dpA_nil h]
    simp only [List.take_nil]
    exact .nil
  | d0 :: ds, _, 0, h => .nil
  | d0 :: ds, _, j + 1, h => by
    obtain ⟨x, r, rfl, h1, h2⟩ := dpA_cons h
    exact .cons h1 (dpA_take j h2)
theorem dpA_drop {K : PySem.W.Frag} {H : Hp} : ∀ {ds : List PyData} {xs : List V} (j : Nat), DpAll K H xs ds → DpAll K H (xs.drop j) (ds.drop j)
  | [], _, j, h => by
    rw [dpA_nil h]
    simp only [List.drop_nil]
    exact .nil
  | d0 :: ds, _, 0, h => h
  | d0 :: ds, _, j + 1, h => by
    obtain ⟨x, r, rfl, h1, h2⟩ := dpA_cons h
    exact dpA_drop j h2
theorem cut_to {xs : List V} {k : Nat} (h : k ≤ xs.length) : cutV xs none (some (k : Int)) = xs.take k := by
  unfold cutV
  rw [HT.sIx_none, HT.sIx_nat, Nat.min_eq_left h, List.drop_zero, Nat.sub_zero]
theorem cut_from {xs : List V} {k : Nat} (h : k ≤ xs.length) : cutV xs (some (k : Int)) none = xs.drop k := by
  unfold cutV
  rw [HT.sIx_none, HT.sIx_nat, Nat.min_eq_left h]
  exact List.take_of_length_le (by rw [List.length_drop]; exact Nat.le_refl _)
def spSChain (K : PySem.W.Frag) : Sp := fun vs H Q _ => ∃ (S D m : Addr) (n : Int) (u v : Str), vs = [.ref D, .ref m, .int n] ∧ DrawAt S D H ∧ m ≠ D ∧ H m = some (.lst [.str u, .str v]) ∧ 1 ≤ n ∧ n ≤ 50 ∧
  ∀ (H' : Hp) (x : V) (base : Int) (C : Chn), Go S D H H' → Dp K H' x (dChn base C) → ChnOk base C → Q x H'
section
variable {P : Program} {w : World} {K : PySem.W.Frag} {mg : Str → Option Value} {base : Heap}
theorem ok__law_silent_chain (T : Txt K mg) (D__law_draw : Kept P w K mg base 1 "_law_draw" ["d", "many"] spDraw) (D__law_pick : Kept P w K mg base 2 "_law_pick" ["d", "row"] (spPick K)) (D__law_rare : Kept P w K mg base 2 "_law_rare" ["d", "many"] spRare) (D__law_downhill : Kept P w K mg base 3 "_law_downhill" ["d", "base", "states", "mark", "other"] (spDown K)) (D__law_turned : Kept P w K mg base 3 "_law_turned" ["d", "rows"] (spTurn K)) (D__law_wide_chain : Kept P w K mg base 4 "_law_wide_chain" ["d", "base", "states", "marks"] (spWChain K)) {f : Addr} {fd : FuncData} (F : FnP K "_law_silent_chain" s__law_silent_chain f fd) : FnOk P w K mg base CX0 5 f fd ["d", "marks", "most"] (spSChain K) := by
  refine F.ok sc__law_silent_chain (fun vs H Q E h => ?_) (fun cdv A outer s H vs Q E hr h => ?_)
  · obtain ⟨S, D, m, n, u, v, rfl, _⟩ := h
    rfl
  · obtain ⟨S, D, m, n, u, w', rfl, d, nD, hm, n1, n2, q⟩ := h
    refine ⟨_, PSs.nox (pss_cons (ps_set (i := 3) sc__law_silent_chain.nd rfl (Or.inl rfl) (pe_op op_add pe_int (pe_d D__law_draw (hr.mono (by decide)) (by rfl) (pa_cons (pv 0) (pa_cons pe_int pa_nil)))))
      (Evl.pss_cut (ps_if (pt_val (pe_d D__law_rare (hr.mono (by decide)) (by rfl) (pa_cons (pv 0) (pa_cons pe_int pa_nil)))) (pss_one (ps_set (i := 3) sc__law_silent_chain.nd rfl (Or.inl rfl) pe_int)) pss_nil)
      (pss_cons (ps_set (i := 4) sc__law_silent_chain.nd rfl (Or.inl rfl) (pe_op op_add pe_int (pe_d D__law_draw (hr.mono (by decide)) (by rfl) (pa_cons (pv 0) (pa_cons pe_int pa_nil)))))
      (Evl.pss_cut (ps_if (pt_val (pe_d D__law_rare (hr.mono (by decide)) (by rfl) (pa_cons (pv 0) (pa_cons pe_int pa_nil)))) (pss_one (ps_set (i := 4) sc__law_silent_chain.nd rfl (Or.inl rfl) (pv 2))) pss_nil)
      (pss_cons (ps_if (pt_cmpR op_eq (pe_d D__law_draw (hr.mono (by decide)) (by rfl) (pa_cons (pv 0) (pa_cons pe_int pa_nil))) pe_int (nomark _)) (pss_one (ps_ret (pe_d D__law_wide_chain (hr.mono (by decide)) (by rfl) (pa_cons (pv 0) (pa_cons (pv 3) (pa_cons (pv 4) (pa_cons (pv 1) pa_nil))))))) pss_nil)
      (pss_cons (ps_set (i := 5) sc__law_silent_chain.nd rfl (Or.inl rfl) (pe_d D__law_turned (hr.mono (by decide)) (by rfl) (pa_cons (pv 0) (pa_cons (pe_d D__law_downhill (hr.mono (by decide)) (by rfl) (pa_cons (pv 0) (pa_cons (pv 3) (pa_cons (pv 4) (pa_cons (pe_ix ix_list (pv 1) pe_int (fun _ _ => rfl)) (pa_cons (pe_ix ix_list (pv 1) pe_int (fun _ _ => rfl)) pa_nil)))))) pa_nil))))
      (Evl.pss_cut (ps_if (pt_cmpR op_eq (pe_d D__law_draw (hr.mono (by decide)) (by rfl) (pa_cons (pv 0) (pa_cons pe_int pa_nil))) pe_int (nomark _)) (pss_cons (ps_set (i := 6) sc__law_silent_chain.nd rfl (Or.inl rfl) (pe_d D__law_draw (hr.mono (by decide)) (by rfl) (pa_cons (pv 0) (pa_cons (pv 4) pa_nil))))
      (pss_cons (ps_set (i := 7) sc__law_silent_chain.nd rfl (Or.inl rfl) (pe_d D__law_draw (hr.mono (by decide)) (by rfl) (pa_cons (pv 0) (pa_cons (pe_callB call_len (by rfl) T.b_len (by decide +kernel) (pa_cons (pe_ix ix_list (pv 5) (pv 6) (fun _ _ => rfl)) pa_nil)) pa_nil))))
      (pss_cons (ps_set (i := 8) sc__law_silent_chain.nd rfl (Or.inl rfl) (pe_tup (pa_cons (pe_ix ix_tup (pe_ix ix_tup (pe_ix ix_list (pv 5) (pv 6) (fun _ _ => rfl)) (pv 7) (fun _ _ => rfl)) pe_int (fun _ _ => rfl)) (pa_cons (pe_d D__law_pick (hr.mono (by decide)) (by rfl) (pa_cons (pv 0) (pa_cons (pe_lst (pa_cons (pe_tup pa_nil) (pa_cons (pe_tup (pa_cons (pe_ix ix_list (pv 1) pe_int (fun _ _ => rfl)) pa_nil)) pa_nil))) pa_nil))) (pa_cons (pe_d D__law_draw (hr.mono (by decide)) (by rfl) (pa_cons (pv 0) (pa_cons (pv 4) pa_nil))) pa_nil)))))
      (pss_one (ps_asg (pe_op op_catA (pe_op op_catA (pe_slice sl_tupA (pe_ix ix_list (pv 5) (pv 6) (fun _ _ => rfl)) po_none (po_some (pv 7))) (pe_tup (pa_cons (pv 8) pa_nil))) (pe_slice sl_tupA (pe_ix ix_list (pv 5) (pv 6) (fun _ _ => rfl)) (po_some (pe_op op_add (pv 7) pe_int)) po_none)) (pg_sub (pv 5) (pv 6) set_list)))))) pss_nil)
      (pss_one (ps_ret (pe_tup (pa_cons pe_str (pa_cons (pv 3) (pa_cons (pe_callTy (tupOfT (K := K) rfl) (by rfl) T.b_tuple (by decide +kernel) (pa_cons (pv 5) pa_nil)) pa_nil))))))))))))), ?_⟩
    refine ⟨_, rfl, S, D, 2, rfl, divW_of (by decide) (by decide), d, fun H1 v v0 v1 g1 => ⟨_, _, rfl, rfl, ?_⟩⟩
    refine ⟨fun σ' H' => ∃ b : Int, σ' = [some (.ref D), some (.ref m), some (.int n), some (.int b), none, none, none, none, none] ∧ 2 ≤ b ∧ b ≤ 6 ∧ Go S D H H', ?_, ?_⟩
    · refine ⟨_, rfl, S, D, 7, rfl, by decide, by decide, g1.1, fun H2 bb g2 => ?_⟩
      exact ⟨_, rfl, ite2 (fun _ => ⟨6, rfl, by decide, by decide, g1.trans g2⟩) (fun _ => ⟨2 + v, rfl, by omega, by omega, g1.trans g2⟩)⟩
    · rintro σ' H2 ⟨b, rfl, b2, b6, g2⟩
      refine ⟨_, rfl, S, D, 5, rfl, divW_of (by decide) (by decide), g2.1, fun H3 x x0 x1 g3 => ⟨_, _, rfl, rfl, ?_⟩⟩
      have g3 := g2.trans g3
      refine ⟨fun σ' H' => ∃ c : Int, σ' = [some (.ref D), some (.ref m), some (.int n), some (.int b), some (.int c), none, none, none, none] ∧ 1 ≤ c ∧ c ≤ 50 ∧ Go S D H H', ?_, ?_⟩
      · refine ⟨_, rfl, S, D, 9, rfl, by decide, by decide, g3.1, fun H4 bb g4 => ?_⟩
        exact ⟨_, rfl, ite2 (fun _ => ⟨_, rfl, n, rfl, n1, n2, g3.trans g4⟩) (fun _ => ⟨1 + x, rfl, by omega, by omega, g3.trans g4⟩)⟩
      · rintro σ' H4 ⟨c, rfl, c1, c2, g4⟩
        refine ⟨_, rfl, S, D, 4, rfl, divW_of (by decide) (by decide), g4.1, fun H5 y y0 y1 g5 => ⟨rfl, _, rfl, ?_⟩⟩
        have g5 := g4.trans g5
        refine ite2 (fun _ => ?_) (fun _ => ?_)
        · exact ⟨_, rfl, _, rfl, _, rfl, _, rfl, S, D, m, b, c, [u, w'], rfl, g5.1, nD, g5.2 _ _ hm nD, (by show 0 < 2; decide), (by show 2 ≤ 100; decide), b2, b6, c1, c2, fun H6 vc C g6 hC okC _ => q H6 vc b C (g5.trans g6) hC okC⟩
        · have hm5 := g5.2 _ _ hm nD
          refine ⟨_, rfl, _, rfl, _, rfl, _, rfl, _, rfl, m, _, _, _, rfl, rfl, SqL.of hm5, atI_nat (j := 0) rfl, _, rfl, m, _, _, _, rfl, rfl, SqL.of hm5, atI_nat (j := 1) rfl, S, D, b, c, u, w', rfl, g5.1, b2, b6, c1, c2, fun H6 L6 zs6 C6 g6 L60 hL6 hzs6 ok6 => ?_⟩
          have g6 := g5.trans g6
          have L6D := (g5.1.free L60).1
          refine ⟨S, D, L6, b, c.toNat, zs6, C6, rfl, g6.1, L6D, hL6, hzs6, ok6, by omega, by omega, fun H7 L zs C g7 L0 hL hzs okC => ?_⟩
          have LD := (g6.1.free L0).1
          have L0' : H L = none := g6.free d L0
          have g7 := g6.trans g7
          refine ⟨fun σ' H' => ∃ (y6 y7 y8 : Option V) (zs : List V) (C : Chn), σ' = [some (.ref D), some (.ref m), some (.int n), some (.int b), some (.int c), some (.ref L), y6, y7, y8] ∧ Go S D H H' ∧ H' L = some (.lst zs) ∧ DpAll K H' zs (C.map dRw) ∧ RsOk b c.toNat C, ?_, ?_⟩
          · refine ⟨_, rfl, S, D, 2, rfl, divW_of (by decide) (by decide), g7.1, fun H8 z z0 z1 g8 => ⟨rfl, _, rfl, ?_⟩⟩
            have hL8 := g8.2 _ _ hL LD
            have hzs8 := dpA_keep (Go.keepT g7.1 g8) _ _ (noLs_rw C) hzs
            have g8 := g7.trans g8
            refine ite2 (fun _ => ?_) (fun _ => ⟨_, _, _, zs, C, rfl, g8, hL8, hzs8, okC⟩)
            refine ⟨_, rfl, _, rfl, S, D, c, rfl, divW_of (by omega) (by omega), g8.1, fun H9 sv s0 s1 g9 => ?_⟩
            obtain ⟨sN, rfl⟩ : ∃ k : Nat, sv = (k : Int) := ⟨sv.toNat, by omega⟩
            have sn : sN < C.length := by
              rw [okC.len]
              omega
            have hL9 := g9.2 _ _ hL8 LD
            have hzs9 := dpA_keep (Go.keepT g8.1 g9) _ _ (noLs_rw C) hzs8
            have g9' := g8.trans g9
            obtain ⟨xr, hxr, hdr⟩ := dpA_get hzs9 (rowOf_at sn)
            have okr := okC.row _ (List.mem_of_getElem? (rowOf_at sn))
            generalize hr0 : rowOf C sN = r at hdr okr
            obtain ⟨pr, rs, rfl, hpr, hrs⟩ := dp_tup hdr
            have rl := dpA_len hrs
            rw [List.length_map] at rl
            have ne := okr.ne
            have few := okr.few
            refine ⟨_, rfl, _, rfl, _, rfl, L, zs, _, _, rfl, rfl, SqL.of hL9, atI_nat hxr, _, _, rfl, .inr ⟨_, hpr, rfl⟩, S, D, _, rfl, divW_of (by omega) (by omega), g9.1, fun H10 kv k0 k1 g10 => ?_⟩
            obtain ⟨kN, rfl⟩ : ∃ k : Nat, kv = (k : Int) := ⟨kv.toNat, by omega⟩
            have kn : kN < r.length := by omega
            obtain ⟨br, hbr⟩ : ∃ br, r[kN]? = some br := ⟨_, getElem?_lt kn⟩
            obtain ⟨xb, hxb, hdb⟩ := dpA_get hrs hbr
            obtain ⟨pb, x0', x1', rfl, hpb, hd0, hd1⟩ := br_at hdb
            have okb := okr.to br (List.mem_of_getElem? hbr)
            have k10 := Go.keepT g9.1 g10
            have g10' := g9'.trans g10
            have hm10 := g10'.2 _ _ hm nD
            have hL10 := g10.2 _ _ hL9 LD
            refine ⟨_, rfl, _, rfl, L, zs, _, _, rfl, rfl, SqL.of hL10, atI_nat hxr, _, rfl, pr, rs, _, _, rfl, rfl, sqt_keep k10 hpr, atI_nat hxb, pb, _, _, _, rfl, rfl, sqt_keep k10 hpb, atI_nat (j := 0) rfl, ?_⟩
            refine ⟨_, rfl, Nat.zero_le _, fun p1 hp1 => ⟨_, rfl, m, _, _, _, rfl, rfl, SqL.of (same_new hp1 _ _ hm10), atI_nat (j := 1) rfl, by show 1 ≤ sizeLine; decide, fun p2 hp2 => ⟨by show 2 ≤ sizeLine; decide, fun l hl0 => ?_⟩⟩⟩
            have u1 := same_new (o := .tup []) hp1
            have u2 := same_new (o := .tup [.str w']) hp2
            have u4 := same_new (o := .lst [.ref p1, .ref p2]) hl0
            have a1 := (u2.trans u4) _ _ (upd_same (H := H10) (a := p1) (o := .tup []))
            have a2 := u4 _ _ (upd_same (H := upd H10 p1 (.tup [])) (a := p2) (o := .tup [.str w']))
            have a4 := upd_same (H := upd (upd H10 p1 (.tup [])) p2 (.tup [.str w'])) (a := l) (o := .lst [.ref p1, .ref p2])
            have g11 := Go.same g10.1 (u1.trans (u2.trans u4))
            have lD := ((Go.same g10.1 (u1.trans u2)).1.free hl0).1
            generalize upd (upd (upd H10 p1 (.tup [])) p2 (.tup [.str w'])) l (.lst [.ref p1, .ref p2]) = H11 at a1 a2 a4 g11
            refine ⟨S, D, .ref l, _, rfl, g11.1, fun H' g => .inr (.inl ⟨l, rfl, SqL.of (g.2 _ _ a4 lD)⟩), by show 0 < 2; decide, by show 2 ≤ 100000; decide, fun H12 y hy g12 => ?_⟩
            obtain ⟨p, ss, rfl, hsl, hss⟩ : ∃ p ss, y = .ref p ∧ ss.length ≤ 6 ∧ Dp K H12 (.ref p) (dSh ss) := by
              have k := Go.keepT g11.1 g12
              simp only [List.mem_cons, List.not_mem_nil, or_false] at hy
              rcases hy with e | e
              · exact ⟨p1, [], e, by show 0 ≤ 6; decide, sh_of (sqt_keep k (SqT.of a1))⟩
              · exact ⟨p2, [w'], e, by show 1 ≤ 6; decide, sh_of (sqt_keep k (SqT.of a2))⟩
            refine ⟨_, rfl, _, rfl, S, D, c, rfl, divW_of (by omega) (by omega), g12.1, fun H13 tv t0 t1 g13 => ⟨by show 3 ≤ sizeLine; decide, fun pn hpn => ?_⟩⟩
            obtain ⟨tN, rfl⟩ : ∃ k : Nat, tv = (k : Int) := ⟨tv.toNat, by omega⟩
            have g13' := g11.trans (g12.trans g13)
            have hss13 := dp_keep (Go.keepT g12.1 g13) _ _ (dSh_noL ss) hss
            have gn := g13'.trans (Go.new (o := .tup [x0', .ref p, .int (tN : Int)]) g13.1 hpn)
            have hss14 := dp_same (same_new (o := .tup [x0', .ref p, .int (tN : Int)]) hpn) _ _ hss13
            have hpn14 := upd_same (H := H13) (a := pn) (o := .tup [x0', .ref p, .int (tN : Int)])
            generalize upd H13 pn (.tup [x0', .ref p, .int (tN : Int)]) = H14 at gn hss14 hpn14
            have k14 := k10.trans (Go.keepT g10.1 gn)
            have hL14 := gn.2 _ _ hL10 LD
            have hbn : Dp K H14 (.ref pn) (dBr (br.1, ss, tN)) := .tup (SqT.of hpn14) (.cons (dp_keep k14 _ _ (dI_noL _) hd0) (.cons hss14 (.cons (.int _) .nil)))
            have hrs14 := dpA_keep k14 _ _ (noLs_br r) hrs
            have hpr14 := sqt_keep k14 hpr
            have hzs14 := dpA_keep k14 _ _ (noLs_rw C) hzs9
            have ec1 := cut_to (xs := rs) (k := kN) (by omega)
            have ec2 : cutV rs (some ((kN : Int) + 1)) none = rs.drop (kN + 1) := cut_from (xs := rs) (k := kN + 1) (by omega)
            refine ⟨_, rfl, _, rfl, L, zs, _, _, rfl, rfl, SqL.of hL14, atI_nat hxr, _, rfl, _, rfl, pr, rs, rfl, hpr14, fun hw => ?_, fun _ p6 hp6 => ?_⟩
            · rw [HT.sIx_nat] at hw
              omega
            rw [ec1]
            have s6 := same_new (o := .tup (rs.take kN)) hp6
            have hp61 := upd_same (H := H14) (a := p6) (o := .tup (rs.take kN))
            generalize upd H14 p6 (.tup (rs.take kN)) = H15 at s6 hp61
            refine ⟨_, rfl, by show 1 ≤ sizeLine; decide, fun p7 hp7 => ?_⟩
            have s7 := same_new (o := .tup [.ref pn]) hp7
            have hp71 := upd_same (H := H15) (a := p7) (o := .tup [.ref pn])
            have hp62 := s7 _ _ hp61
            generalize upd H15 p7 (.tup [.ref pn]) = H16 at s7 hp71 hp62
            have s67 := s6.trans s7
            refine catA_mono (cat_D (SqT.of hp62) (SqT.of hp71) (dpA_take kN (dpA_same s67 _ _ hrs14)) (.cons (dp_same s67 _ _ hbn) .nil) (by rw [List.length_take, List.length_map]; show _ + 1 ≤ _; omega)) fun v8 H17 ⟨s8, d8⟩ => ?_
            have s68 := s67.trans s8
            obtain ⟨p8, xs8, rfl, hp8, hx8⟩ := dp_tup d8
            refine ⟨_, rfl, _, rfl, L, zs, _, _, rfl, rfl, SqL.of (s68 _ _ hL14), atI_nat hxr, _, rfl, _, _, rfl, rfl, _, rfl, pr, rs, rfl, same_t s68 hpr14, fun hw => ?_, fun _ p9 hp9 => ?_⟩
            · have e : ((kN : Int) + 1) = ((kN + 1 : Nat) : Int) := by omega
              have h0 := hw.1
              exfalso
              rw [show (some ((kN : Int) + 1) : Option Int) = some ((kN + 1 : Nat) : Int) from congrArg some e] at h0
              rw [HT.sIx_nat] at h0
              omega
            rw [ec2]
            have s9 := same_new (o := .tup (rs.drop (kN + 1))) hp9
            have hp91 := upd_same (H := H17) (a := p9) (o := .tup (rs.drop (kN + 1)))
            generalize upd H17 p9 (.tup (rs.drop (kN + 1))) = H18 at s9 hp91
            refine catA_mono (cat_D (same_t s9 hp8) (SqT.of hp91) (dpA_same s9 _ _ hx8) (dpA_drop (kN + 1) (dpA_same (s68.trans s9) _ _ hrs14)) (by rw [List.length_append, List.length_take, List.length_drop, List.length_map]; show _ + 1 + _ ≤ _; omega)) fun v10 H19 ⟨s10, d10⟩ => ?_
            have s1419 := (s68.trans s9).trans s10
            have hL19 := s1419 _ _ hL14
            have er' : (r.take kN ++ [(br.1, ss, tN)] ++ r.drop (kN + 1)).map (·.1) = r.map (·.1) := by
              have e1 : r = r.take kN ++ [br] ++ r.drop (kN + 1) := by
                rw [List.append_assoc]
                have : r.drop kN = [br] ++ r.drop (kN + 1) := by
                  rw [List.drop_eq_getElem_cons kn]
                  rw [List.getElem?_eq_getElem kn] at hbr
                  rw [Option.some.inj hbr]
                  rfl
                rw [← this, List.take_append_drop]
              conv => rhs; rw [e1]
              simp only [List.map_append]
              rfl
            have d10' : Dp K H19 v10 (dRw (r.take kN ++ [(br.1, ss, tN)] ++ r.drop (kN + 1))) := by
              show Dp K H19 v10 (.tuple ((r.take kN ++ [(br.1, ss, tN)] ++ r.drop (kN + 1)).map dBr))
              rw [List.map_append, List.map_append, List.map_take, List.map_drop]
              exact d10
            have kL := keepT_nt (o := .lst (zs.set sN v10)) (nt_lst _) hL19
            have zl := dpA_len hzs14
            rw [List.length_map] at zl
            refine ⟨_, rfl, _, rfl, L, zs, _, sN, rfl, rfl, hL19, Evl.ixN_nat (by omega), some (.int (sN : Int)), some (.int (kN : Int)), some (.ref pn), zs.set sN v10, C.set sN (r.take kN ++ [(br.1, ss, tN)] ++ r.drop (kN + 1)), rfl, goU L0' d ((g10'.trans gn).trans (Go.same gn.1 s1419)), upd_same, ?_, by rw [List.length_set]; exact okC.len, fun r2 hr2 => ?_⟩
            · rw [List.map_set]
              exact dpA_keep kL _ _ (by rw [← List.map_set]; exact noLs_rw _) (dpA_set sN (dpA_same s1419 _ _ hzs14) d10')
            · rcases List.mem_or_eq_of_mem_set hr2 with h | h
              · exact okC.row r2 h
              · rw [h]
                refine ⟨by simp only [List.length_append]; show 0 < _ + 1 + _; omega, ?_, fun z hz => ?_, by rw [er']; exact okr.cm⟩
                · have := congrArg List.length er'
                  rw [List.length_map, List.length_map] at this
                  omega
                · rcases List.mem_append.mp hz with h | h
                  · rcases List.mem_append.mp h with h | h
                    · exact okr.to z (List.mem_of_mem_take h)
                    · rw [List.mem_singleton.mp h]
                      exact ⟨by show tN < c.toNat; omega, hsl⟩
                  · exact okr.to z (List.mem_of_mem_drop h)
          · rintro σ' H8 ⟨y6, y7, y8, zs, C, rfl, g8, hL8, hzs8, okC⟩
            refine ⟨_, rfl, _, rfl, L, zs, rfl, .inl ⟨SqL.of hL8, fun pq hpq => ⟨by show 3 ≤ sizeLine; decide, fun pw hpw => ?_⟩⟩⟩
            have gq := Go.new (o := .tup zs) g8.1 hpq
            have gw := gq.trans (Go.new (o := .tup [.str "chain", .int b, .ref pq]) gq.1 hpw)
            have hpq2 := same_new (o := .tup [.str "chain", .int b, .ref pq]) hpw _ _ (upd_same (H := H8) (a := pq) (o := .tup zs))
            refine q _ _ b C (g8.trans gw) (.tup (SqT.of upd_same) (.cons (.str _) (.cons (.int _) (.cons (.tup (SqT.of hpq2) (dpA_keep (Go.keepT g8.1 gw) _ _ (noLs_rw C) hzs8)) .nil)))) ⟨b2, b6, by rw [okC.len]; omega, by rw [okC.len]; omega, fun r hr => ?_⟩
            rw [okC.len]
            exact okC.row r hr
end
end Mt
namespace Mt
open PySem PySem.Spec PyProof.Rows L2
/-! ### ranks: in how many ticks a state is sure -/
def ga (l : List Nat) (i : Nat) : Nat := (l[i]?).getD 0
def tgs (N : List (List Nat)) (s : Nat) : List Nat := (N[s]?).getD []
def rdy (N : List (List Nat)) (g : List Nat) (s : Nat) : Bool := decide (ga g s = 0) && (tgs N s).all fun t => decide (0 < ga g t)
def fnd (N : List (List Nat)) : Nat → List Nat
  | 0 => (List.range N.length).map fun _ => 0
  | k + 1 => (List.range N.length).map fun s => if rdy N (fnd N k) s = true then k + 1 else ga (fnd N k) s
def frs (N : List (List Nat)) (k : Nat) : List Nat := (List.range N.length).filter (rdy N (fnd N k))
theorem fnd_len (N : List (List Nat)) (k : Nat) : (fnd N k).length = N.length := by
  cases k <;> (unfold fnd; rw [List.length_map, List.length_range])
theorem ga_range {n s : Nat} {f : Nat → Nat} (h : s < n) : ga ((List.range n).map f) s = f s := by
  unfold ga
  rw [List.getElem?_map, List.getElem?_range h]
  rfl
theorem fnd_0 {N : List (List Nat)} {s : Nat} : ga (fnd N 0) s = 0 := by
  unfold ga fnd
  rw [List.getElem?_map]
  cases (List.range N.length)[s]? <;> rfl
theorem fnd_s {N : List (List Nat)} {k s : Nat} (h : s < N.length) : ga (fnd N (k + 1)) s = if rdy N (fnd N k) s = true then k + 1 else ga (fnd N k) s := ga_range h
theorem fnd_out {N : List (List Nat)} {k s : Nat} (h : N.length ≤ s) : ga (fnd N k) s = 0 := by
  unfold ga
  rw [List.getElem?_eq_none (by rw [fnd_len]; exact h)]
  rfl
theorem rdy_iff {N : List (List Nat)} {g : List Nat} {s : Nat} : rdy N g s = true ↔ ga g s = 0 ∧ ∀ t ∈ tgs N s, 0 < ga g t := by
  unfold rdy
  rw [Bool.and_eq_true, decide_eq_true_iff, List.all_eq_true]
  constructor
  · exact fun h => ⟨h.1, fun t ht => of_decide_eq_true (h.2 t ht)⟩
  · exact fun h => ⟨h.1, fun t ht => decide_eq_true (h.2 t ht)⟩
/-- what is set stays -/
theorem fnd_keep {N : List (List Nat)} {k s : Nat} (h : 0 < ga (fnd N k) s) : ga (fnd N (k + 1)) s = ga (fnd N k) s := by
  by_cases hs : s < N.length
  · rw [fnd_s hs, if_neg fun r => by have := (rdy_iff.mp r).1; omega]
  · rw [fnd_out (by omega)] at h
    omega
theorem fnd_val {N : List (List Nat)} : ∀ (k s : Nat), 0 < ga (fnd N k) s → ga (fnd N k) s ≤ k ∧ ∀ t ∈ tgs N s, 0 < ga (fnd N k) t ∧ ga (fnd N k) t < ga (fnd N k) s
  | 0, s, h => by
    rw [fnd_0] at h
    omega
  | k + 1, s, h => by
    by_cases hs : s < N.length
    · by_cases r : rdy N (fnd N k) s = true
      · have e : ga (fnd N (k + 1)) s = k + 1 := by rw [fnd_s hs, if_pos r]
        rw [e]
        refine ⟨Nat.le_refl _, fun t ht => ?_⟩
        have h0 := (rdy_iff.mp r).2 t ht
        rw [fnd_keep h0]
        have := (fnd_val k t h0).1
        exact ⟨h0, by omega⟩
      · have e : ga (fnd N (k + 1)) s = ga (fnd N k) s := by rw [fnd_s hs, if_neg r]
        rw [e] at h ⊢
        obtain ⟨h1, h2⟩ := fnd_val k s h
        refine ⟨by omega, fun t ht => ?_⟩
        rw [fnd_keep (h2 t ht).1]
        exact h2 t ht
    · rw [fnd_out (by omega)] at h
      omega
theorem ga_ext {N : List (List Nat)} {j k : Nat} (h : ∀ s, s < N.length → ga (fnd N j) s = ga (fnd N k) s) : fnd N j = fnd N k := by
  apply List.ext_getElem?
  intro s
  by_cases hs : s < N.length
  · have := h s hs
    unfold ga at this
    rw [List.getElem?_eq_getElem (by rw [fnd_len]; exact hs), List.getElem?_eq_getElem (by rw [fnd_len]; exact hs)] at this ⊢
    exact congrArg some this
  · rw [List.getElem?_eq_none (by rw [fnd_len]; omega), List.getElem?_eq_none (by rw [fnd_len]; omega)]
theorem frs_none {N : List (List Nat)} {k : Nat} (h : frs N k = []) : fnd N (k + 1) = fnd N k := ga_ext fun s hs => by
  have : ¬ rdy N (fnd N k) s = true := fun r => by
    have : s ∈ frs N k := List.mem_filter.mpr ⟨List.mem_range.mpr hs, r⟩
    rw [h] at this
    exact absurd this List.not_mem_nil
  rw [fnd_s hs, if_neg this]
theorem stable {N : List (List Nat)} {k : Nat} (h : frs N k = []) : ∀ j, fnd N (k + j) = fnd N k ∧ frs N (k + j) = []
  | 0 => ⟨rfl, h⟩
  | j + 1 => by
    obtain ⟨h1, h2⟩ := stable h j
    have e := frs_none h2
    rw [h1] at e
    refine ⟨e, ?_⟩
    show (List.range N.length).filter (rdy N (fnd N (k + j + 1))) = []
    rw [e]
    exact h
def nz (l : List Nat) : Nat := (l.filter fun x => decide (0 < x)).length
theorem nz_le (l : List Nat) : nz l ≤ l.length := List.length_filter_le _ _
theorem nz_range (n : Nat) (f : Nat → Nat) : nz ((List.range n).map f) = ((List.range n).filter fun s => decide (0 < f s)).length := by
  unfold nz
  rw [List.filter_map, List.length_map]
  rfl
theorem filter_lt {α : Type} : ∀ {l : List α} {p q : α → Bool}, (∀ x ∈ l, p x = true → q x = true) → (∃ x ∈ l, p x = false ∧ q x = true) → (l.filter p).length < (l.filter q).length
  | [], _, _, _, h => by
    obtain ⟨x, hx, _⟩ := h
    exact absurd hx List.not_mem_nil
  | a :: r, p, q, h1, h2 => by
    have hle : (r.filter p).length ≤ (r.filter q).length := by
      have : ∀ l : List α, (∀ x ∈ l, p x = true → q x = true) → (l.filter p).length ≤ (l.filter q).length := fun l => by
        induction l with
        | nil => exact fun _ => Nat.le_refl _
        | cons b t ih =>
          intro hb
          have ih := ih fun x hx => hb x (List.mem_cons_of_mem _ hx)
          cases hp : p b with
          | true =>
            rw [List.filter_cons_of_pos hp, List.filter_cons_of_pos (hb b List.mem_cons_self hp), List.length_cons, List.length_cons]
            omega
          | false =>
            rw [List.filter_cons_of_neg (by simp [hp])]
            cases hq : q b with
            | true =>
              rw [List.filter_cons_of_pos hq, List.length_cons]
              omega
            | false =>
              rw [List.filter_cons_of_neg (by simp [hq])]
              exact ih
      exact this r fun x hx => h1 x (List.mem_cons_of_mem _ hx)
    cases hp : p a with
    | true =>
      rw [List.filter_cons_of_pos hp, List.filter_cons_of_pos (h1 a List.mem_cons_self hp), List.length_cons, List.length_cons]
      obtain ⟨x, hx, k1, k2⟩ := h2
      rcases List.mem_cons.mp hx with rfl | hx
      · rw [hp] at k1
        cases k1
      · have := filter_lt (l := r) (p := p) (q := q) (fun x hx => h1 x (List.mem_cons_of_mem _ hx)) ⟨x, hx, k1, k2⟩
        omega
    | false =>
      rw [List.filter_cons_of_neg (by simp [hp])]
      cases hq : q a with
      | true =>
        rw [List.filter_cons_of_pos hq, List.length_cons]
        omega
      | false =>
        rw [List.filter_cons_of_neg (by simp [hq])]
        obtain ⟨x, hx, k1, k2⟩ := h2
        rcases List.mem_cons.mp hx with rfl | hx
        · rw [hq] at k2
          cases k2
        · exact filter_lt (fun x hx => h1 x (List.mem_cons_of_mem _ hx)) ⟨x, hx, k1, k2⟩
theorem fnd_as (N : List (List Nat)) (k : Nat) : fnd N k = (List.range N.length).map fun s => ga (fnd N k) s := by
  apply List.ext_getElem?
  intro s
  rw [List.getElem?_map]
  by_cases hs : s < N.length
  · rw [List.getElem?_range hs, List.getElem?_eq_getElem (by rw [fnd_len]; exact hs)]
    show some _ = some (ga (fnd N k) s)
    unfold ga
    rw [List.getElem?_eq_getElem (by rw [fnd_len]; exact hs)]
    rfl
  · rw [List.getElem?_eq_none (by rw [fnd_len]; omega), List.getElem?_eq_none (by rw [List.length_range]; omega)]
    rfl
theorem nz_up {N : List (List Nat)} {k : Nat} (h : frs N k ≠ []) : nz (fnd N k) < nz (fnd N (k + 1)) := by
  rw [fnd_as N k, fnd_as N (k + 1), nz_range, nz_range]
  refine filter_lt (fun s _ hs => ?_) ?_
  · have := of_decide_eq_true hs
    rw [fnd_keep this]
    exact hs
  · obtain ⟨s, hs⟩ := List.exists_mem_of_ne_nil _ h
    obtain ⟨h1, h2⟩ := List.mem_filter.mp hs
    refine ⟨s, h1, decide_eq_false ?_, decide_eq_true ?_⟩
    · have := (rdy_iff.mp h2).1
      omega
    · rw [fnd_s (List.mem_range.mp h1), if_pos h2]
      omega
theorem nz_grow {N : List (List Nat)} : ∀ k, (∀ j, j < k → frs N j ≠ []) → k ≤ nz (fnd N k)
  | 0, _ => Nat.zero_le _
  | k + 1, h => by
    have h1 := nz_grow k fun j hj => h j (by omega)
    have h2 := nz_up (h k (by omega))
    omega
/-- as many rounds as there are states are enough -/
theorem frs_end (N : List (List Nat)) : frs N N.length = [] := by
  cases e : frs N N.length with
  | nil => rfl
  | cons a r =>
    exfalso
    have h : ∀ j, j < N.length + 1 → frs N j ≠ [] := fun j hj k => by
      have := (stable k (N.length - j)).2
      rw [show j + (N.length - j) = N.length by omega, e] at this
      cases this
    have h1 := nz_grow (N.length + 1) h
    have h2 := nz_le (fnd N (N.length + 1))
    rw [fnd_len] at h2
    omega
theorem fnd_end {N : List (List Nat)} {k : Nat} (h : frs N k = []) : fnd N k = fnd N N.length := by
  rcases Nat.le_total k N.length with h1 | h1
  · rw [← (stable h (N.length - k)).1, show k + (N.length - k) = N.length by omega]
  · rw [← (stable (frs_end N) (k - N.length)).1, show N.length + (k - N.length) = k by omega]
def rk (N : List (List Nat)) : List Nat := fnd N N.length
theorem rk_sure {N : List (List Nat)} {s : Nat} (h : 0 < ga (rk N) s) : ∀ t ∈ tgs N s, 0 < ga (rk N) t ∧ ga (rk N) t < ga (rk N) s := (fnd_val _ s h).2
theorem rk_on {N : List (List Nat)} {s : Nat} (hs : s < N.length) (h : ga (rk N) s = 0) : ∃ t ∈ tgs N s, ga (rk N) t = 0 := by
  by_cases k : ∃ t ∈ tgs N s, ga (rk N) t = 0
  · exact k
  · exfalso
    have : rdy N (rk N) s = true := rdy_iff.mpr ⟨h, fun t ht => Nat.pos_of_ne_zero fun e => k ⟨t, ht, e⟩⟩
    have : s ∈ frs N N.length := List.mem_filter.mpr ⟨List.mem_range.mpr hs, this⟩
    rw [frs_end] at this
    exact absurd this List.not_mem_nil
/-- the law's way: alive as long as the rank is 0 -/
theorem alive_step {N : List (List Nat)} {k s : Nat} (hs : s < N.length) : decide (ga (fnd N (k + 1)) s = 0) = (tgs N s).any fun t => decide (ga (fnd N k) t = 0) := by
  rw [Bool.eq_iff_iff, decide_eq_true_iff, List.any_eq_true, fnd_s hs]
  constructor
  · intro h
    by_cases r : rdy N (fnd N k) s = true
    · rw [if_pos r] at h
      omega
    · rw [if_neg r] at h
      by_cases e : ∃ t ∈ tgs N s, ga (fnd N k) t = 0
      · obtain ⟨t, h1, h2⟩ := e
        exact ⟨t, h1, decide_eq_true h2⟩
      · exact absurd (rdy_iff.mpr ⟨h, fun t ht => Nat.pos_of_ne_zero fun z => e ⟨t, ht, z⟩⟩) r
  · rintro ⟨t, h1, h2⟩
    have h2 := of_decide_eq_true h2
    have r : ¬ rdy N (fnd N k) s = true := fun r => by
      have := (rdy_iff.mp r).2 t h1
      omega
    rw [if_neg r]
    by_cases e : 0 < ga (fnd N k) s
    · have := ((fnd_val k s e).2 t h1).1
      omega
    · omega
end Mt
namespace Mt
open PySem PySem.Spec PyProof.Rows L2
theorem allK {X : Cx} {K : PySem.W.Frag} (hc : X.calm = true) (h : X.K = K) : CallR X (.builtin "all") (rAll K) := h ▸ cr_all hc
theorem ixLK {X : Cx} {K : PySem.W.Frag} (h : X.K = K) : IxR X (rIxL K) := h ▸ ix_list
abbrev cs_lo : Scope := { kind := .function, names := [(Str.ofString ".0", .local), (Str.ofString "state", .local), (Str.ofString "targets", .local), (Str.ofString "all", .globalImplicit), (Str.ofString "found", .cell)], isGenerator := false, isCoroutine := false }
def dTg (l : List Nat) : PyData := .list (l.map fun t : Nat => .int (t : Int))
def dNx (N : List (List Nat)) : PyData := .list (N.map dTg)
structure NxOk (N : List (List Nat)) : Prop where
  few : N.length ≤ 100
  row : ∀ l ∈ N, l.length ≤ 100 ∧ ∀ t ∈ l, t < N.length
def spLong (K : PySem.W.Frag) : Sp := fun vs H Q _ => ∃ (v : V) (N : List (List Nat)), vs = [v] ∧ Dp K H v (dNx N) ∧ NxOk N ∧ ∀ (H' : Hp) (F : Addr), Same H H' → H F = none → H' F = some (.lst ((rk N).map vN)) → Q (.ref F) H'
theorem dp_nats {K : PySem.W.Frag} {H : Hp} : ∀ {l : List Nat} {xs : List V}, DpAll K H xs (l.map fun t : Nat => .int (t : Int)) → xs = l.map vN
  | [], _, h => dpA_nil h
  | s :: r, _, h => by
    obtain ⟨x, t, rfl, h1, h2⟩ := dpA_cons h
    rw [dp_int h1, dp_nats h2]
    rfl
theorem vN_at {l : List Nat} {i : Nat} (h : i < l.length) : atI (l.map vN) (i : Int) = some (vN (ga l i)) := atI_nat (by
  rw [List.getElem?_map, List.getElem?_eq_getElem h]
  unfold ga
  rw [List.getElem?_eq_getElem h]
  rfl)
theorem zeros {α : Type} (xs : List α) (n : Nat) (h : xs.length = n) : xs.map (fun _ => V.int 0) = ((List.range n).map fun _ => 0).map vN := by
  rw [List.map_const', h, List.map_const', List.length_range, List.map_replicate]
  rfl
/-- the round's states get their rank -/
def setN (l : List Nat) (ss : List Nat) (v : Nat) : List Nat := ss.foldl (fun l s => l.set s v) l
theorem setN_len : ∀ (ss : List Nat) (l : List Nat) (v : Nat), (setN l ss v).length = l.length
  | [], _, _ => rfl
  | s :: r, l, v => by
    show (setN (l.set s v) r v).length = l.length
    rw [setN_len r, List.length_set]
theorem ga_set {l : List Nat} {s i v : Nat} (h : i < l.length) : ga (l.set s v) i = if s = i then v else ga l i := by
  unfold ga
  rw [List.getElem?_set]
  by_cases e : s = i
  · subst e
    rw [if_pos rfl, if_pos rfl, if_pos h]
    rfl
  · rw [if_neg e, if_neg e]
theorem ga_setN : ∀ (ss : List Nat) (l : List Nat) (v i : Nat), i < l.length → ga (setN l ss v) i = if i ∈ ss then v else ga l i
  | [], _, _, _, _ => by simp [setN]
  | s :: r, l, v, i, h => by
    show ga (setN (l.set s v) r v) i = _
    rw [ga_setN r _ v i (by rw [List.length_set]; exact h), ga_set h]
    by_cases e : i ∈ r
    · rw [if_pos e, if_pos (List.mem_cons_of_mem _ e)]
    · rw [if_neg e]
      by_cases k : s = i
      · rw [if_pos k, if_pos (by rw [k]; exact List.mem_cons_self)]
      · rw [if_neg k, if_neg fun q => by
          rcases List.mem_cons.mp q with z | z
          · exact k z.symm
          · exact e z]
theorem setN_end (N : List (List Nat)) (k : Nat) : setN (fnd N k) (frs N k) (k + 1) = fnd N (k + 1) := by
  apply List.ext_getElem?
  intro s
  by_cases hs : s < N.length
  · have h1 := ga_setN (frs N k) (fnd N k) (k + 1) s (by rw [fnd_len]; exact hs)
    have h2 : ga (fnd N (k + 1)) s = if s ∈ frs N k then k + 1 else ga (fnd N k) s := by
      rw [fnd_s hs]
      by_cases r : rdy N (fnd N k) s = true
      · rw [if_pos r, if_pos (show s ∈ frs N k from List.mem_filter.mpr ⟨List.mem_range.mpr hs, r⟩)]
      · rw [if_neg r, if_neg (show ¬ s ∈ frs N k from fun q => r (List.mem_filter.mp q).2)]
    rw [← h2] at h1
    unfold ga at h1
    rw [List.getElem?_eq_getElem (by rw [setN_len, fnd_len]; exact hs), List.getElem?_eq_getElem (by rw [fnd_len]; exact hs)] at h1 ⊢
    exact congrArg some h1
  · rw [List.getElem?_eq_none (by rw [setN_len, fnd_len]; omega), List.getElem?_eq_none (by rw [fnd_len]; omega)]
theorem setN_take {l ss : List Nat} {v j s : Nat} (h : ss[j]? = some s) : setN l (ss.take (j + 1)) v = (setN l (ss.take j) v).set s v := by
  rw [take_snoc h]
  unfold setN
  rw [List.foldl_append]
  rfl
end Mt
namespace Mt
open PySem PySem.Spec PyProof.Rows L2
theorem ninK {X : Cx} {K : PySem.W.Frag} (h : X.K = K) : OpR X (compareOp .NotIn) (rIn K true) := h ▸ op_notIn_seq
theorem inK {X : Cx} {K : PySem.W.Frag} (h : X.K = K) : OpR X (compareOp .In) (rIn K false) := h ▸ op_in_seq
theorem inV_str (z : Str) (ss : List Str) : inV (.str z) (ss.map V.str) = decide (z ∈ ss) := by
  unfold inV
  rw [List.any_map, Bool.eq_iff_iff, List.any_eq_true, decide_eq_true_iff]
  constructor
  · rintro ⟨s, hs, h⟩
    have h : (s == z) = true := h
    rw [← eq_of_beq h]
    exact hs
  · intro h
    exact ⟨z, h, (beq_self_eq_true z : (z == z) = true)⟩
theorem flat_strs (ss : List Str) : (ss.map V.str).all flatV = true := by
  rw [List.all_map]
  exact List.all_eq_true.mpr fun _ _ => rfl
/-- the branches that don't show z -/
def sl (z : Str) (r : List Br) : List Br := r.filter fun b => !decide (z ∈ b.2.1)
def nx (C : Chn) (z : Str) : List (List Nat) := C.map fun r => (sl z r).map (·.2.2)
def onp (z : Str) (g : List Nat) (b : Br) : Bool := !decide (z ∈ b.2.1) && decide (ga g b.2.2 = 0)
theorem tgs_nx {C : Chn} {z : Str} {s : Nat} : tgs (nx C z) s = (sl z (rowOf C s)).map (·.2.2) := by
  unfold tgs nx rowOf
  rw [List.getElem?_map]
  cases C[s]? <;> rfl
theorem on_any {C : Chn} {z : Str} {g : List Nat} {s : Nat} : ((tgs (nx C z) s).any fun t => decide (ga g t = 0)) = decide (0 < ((rowOf C s).filter (onp z g)).length) := by
  rw [tgs_nx, List.any_map, Bool.eq_iff_iff, List.any_eq_true, decide_eq_true_iff]
  constructor
  · rintro ⟨b, hb, h⟩
    obtain ⟨h1, h2⟩ := List.mem_filter.mp hb
    refine List.length_pos_iff.mpr (List.ne_nil_of_mem (a := b) (List.mem_filter.mpr ⟨h1, ?_⟩))
    unfold onp
    rw [Bool.and_eq_true]
    exact ⟨h2, h⟩
  · intro h
    obtain ⟨b, hb⟩ := List.exists_mem_of_ne_nil _ (List.length_pos_iff.mp h)
    obtain ⟨h1, h2⟩ := List.mem_filter.mp hb
    unfold onp at h2
    rw [Bool.and_eq_true] at h2
    exact ⟨b, List.mem_filter.mpr ⟨h1, h2.1⟩, h2.2⟩
theorem on_rdy {C : Chn} {z : Str} {g : List Nat} {s : Nat} : rdy (nx C z) g s = (decide (ga g s = 0) && decide (((rowOf C s).filter (onp z g)).length = 0)) := by
  have h := on_any (C := C) (z := z) (g := g) (s := s)
  rw [Bool.eq_iff_iff, rdy_iff, Bool.and_eq_true, decide_eq_true_iff, decide_eq_true_iff]
  constructor
  · rintro ⟨h1, h2⟩
    refine ⟨h1, ?_⟩
    by_cases e : ((rowOf C s).filter (onp z g)).length = 0
    · exact e
    · rw [decide_eq_true (show 0 < ((rowOf C s).filter (onp z g)).length by omega)] at h
      obtain ⟨t, ht, k⟩ := List.any_eq_true.mp h
      have := h2 t ht
      have := of_decide_eq_true k
      omega
  · rintro ⟨h1, h2⟩
    refine ⟨h1, fun t ht => Nat.pos_of_ne_zero fun e => ?_⟩
    have : ((tgs (nx C z) s).any fun t => decide (ga g t = 0)) = true := List.any_eq_true.mpr ⟨t, ht, decide_eq_true e⟩
    rw [h] at this
    have := of_decide_eq_true this
    omega
def spLLong (K : PySem.W.Frag) : Sp := fun vs H Q _ => ∃ (vc : V) (z : Str) (base : Int) (C : Chn), vs = [vc, .str z] ∧ Dp K H vc (dChn base C) ∧ ChnOk base C ∧ ∀ (H' : Hp) (p : Addr), Same H H' → H' p = some (.tup ((rk (nx C z)).map vN)) → Q (.ref p) H'
/-- the list of ranks while a round is under way -/
def mid (N : List (List Nat)) (i j : Nat) : List Nat := (List.range N.length).map fun s => if s < j then ga (fnd N (i + 1)) s else ga (fnd N i) s
theorem mid_0 (N : List (List Nat)) (i : Nat) : mid N i 0 = fnd N i := by
  unfold mid
  rw [fnd_as N i]
  refine List.map_congr_left fun s _ => ?_
  rw [if_neg (Nat.not_lt_zero s), ← fnd_as]
theorem mid_end (N : List (List Nat)) (i : Nat) : mid N i N.length = fnd N (i + 1) := by
  conv => rhs; rw [fnd_as N (i + 1)]
  unfold mid
  refine List.map_congr_left fun s hs => ?_
  rw [if_pos (List.mem_range.mp hs)]
theorem mid_same {N : List (List Nat)} {i j : Nat} (h : ga (fnd N (i + 1)) j = ga (fnd N i) j) : mid N i (j + 1) = mid N i j := by
  unfold mid
  refine List.map_congr_left fun s _ => ?_
  by_cases e : s = j
  · subst e
    rw [if_pos (Nat.lt_succ_self s), if_neg (Nat.lt_irrefl s), h]
  · by_cases k : s < j
    · rw [if_pos k, if_pos (by omega)]
    · rw [if_neg k, if_neg (by omega)]
theorem mid_set {N : List (List Nat)} {i j : Nat} : (mid N i j).set j (ga (fnd N (i + 1)) j) = mid N i (j + 1) := by
  apply List.ext_getElem?
  intro s
  rw [List.getElem?_set]
  unfold mid
  rw [List.length_map, List.length_range, List.getElem?_map, List.getElem?_map]
  by_cases e : j = s
  · subst e
    rw [if_pos rfl]
    by_cases k : j < N.length
    · rw [if_pos k, List.getElem?_range k]
      show _ = some (if j < j + 1 then ga (fnd N (i + 1)) j else _)
      rw [if_pos (Nat.lt_succ_self j)]
    · rw [if_neg k, List.getElem?_eq_none (by rw [List.length_range]; omega)]
      rfl
  · rw [if_neg e]
    by_cases k : s < N.length
    · rw [List.getElem?_range k]
      show some (if s < j then _ else _) = some (if s < j + 1 then _ else _)
      by_cases l : s < j
      · rw [if_pos l, if_pos (by omega)]
      · rw [if_neg l, if_neg (by omega)]
    · rw [List.getElem?_eq_none (by rw [List.length_range]; omega)]
      rfl
def alv (N : List (List Nat)) (i : Nat) : List V := (List.range N.length).map fun s => .bl (decide (ga (fnd N i) s = 0))
theorem alv_at {N : List (List Nat)} {i s : Nat} (h : s < N.length) : atI (alv N i) (s : Int) = some (.bl (decide (ga (fnd N i) s = 0))) := atI_nat (by
  unfold alv
  rw [List.getElem?_map, List.getElem?_range h]
  rfl)
theorem mid_len (N : List (List Nat)) (i j : Nat) : (mid N i j).length = N.length := by
  unfold mid
  rw [List.length_map, List.length_range]
theorem rep_list {α : Type} (x : α) (n : Nat) : (List.replicate n [x]).flatten = List.replicate n x := by
  induction n with
  | zero => rfl
  | succ n ih =>
    rw [List.replicate_succ, List.flatten_cons, ih]
    rfl
section
variable {P : Program} {w : World} {K : PySem.W.Frag} {mg : Str → Option Value} {base : Heap}
theorem ok__law_longest (T : Txt K mg) {f : Addr} {fd : FuncData} (F : FnP K "_law_longest" s__law_longest f fd) : FnOk P w K mg base CX0 1 f fd ["chain", "mark"] (spLLong K) := by
  refine F.ok sc__law_longest (fun vs H Q E h => ?_) (fun cdv A outer s H vs Q E hr h => ?_)
  · obtain ⟨vc, z, b, C, rfl, _⟩ := h
    rfl
  · obtain ⟨vc, z, b, C, rfl, hC, ok, q⟩ := h
    refine ⟨_, PSs.nox (pss_cons (ps_set (i := 2) sc__law_longest.nd rfl (Or.inl rfl) (pe_callB call_len (by rfl) T.b_len (by decide +kernel) (pa_cons (pe_ix ix_tup (pv 0) pe_int (fun _ _ => rfl)) pa_nil)))
      (pss_cons (ps_set (i := 3) sc__law_longest.nd rfl (Or.inr rfl) (pe_op op_rep (pe_lst (pa_cons pe_bl pa_nil)) (pv 2)))
      (pss_cons (ps_set (i := 4) sc__law_longest.nd rfl (Or.inl rfl) (pe_op op_rep (pe_lst (pa_cons pe_int pa_nil)) (pv 2)))
      (pss_cons (ps_for PassesOwn.never rfl (pi_range2 (by rfl) T.b_range (pa_cons pe_int (pa_cons (pe_op op_add (pv 2) pe_int) pa_nil))) (pg_name (i := 5) sc__law_longest.nd rfl (Or.inl rfl)) (pss_cons (ps_set (i := 6) sc__law_longest.nd rfl (Or.inl rfl) (pe_lst pa_nil))
      (pss_cons (ps_for PassesOwn.never rfl (pi_range1 (by rfl) T.b_range (pa_cons (pv 2) pa_nil)) (pg_name (i := 7) sc__law_longest.nd rfl (Or.inl rfl)) (pss_cons (ps_setLc (i := 8) (own := [("branch", 9)]) (g := (gName 9)) rfl sc__law_longest.nd rfl rfl (sw_true rfl rfl rfl (by decide +kernel)) (pi_tup (pe_ix ix_tup (pe_ix ix_tup (pv 0) pe_int (fun _ _ => rfl)) (pv 7) (fun _ _ => rfl))) (blkOk_by (N := N__law_longest) (sc := defScope s__law_longest) (by decide +kernel)) (fun _ _ _ _ _ => (pg_name (i := 9) sc__law_longest.nd rfl (Or.inl rfl))) (fun _ _ _ _ _ => (pts_one (PW.pt (pw_and (pt_cmpR (ninK (K := K) rfl) (pv 1) (pe_ix (ixT (K := K) rfl) (pv 9) pe_int (fun _ _ => rfl)) (by rfl)) (pw_and1 (pt_val (pe_ix (ixL (K := K) rfl) (pv 3) (pe_ix (ixT (K := K) rfl) (pv 9) pe_int (fun _ _ => rfl)) (fun _ _ => rfl)))))))) (fun _ _ _ _ _ => (pv 9)))
      (pss_cons (ps_expr (pe_bm PySem.F.plainAttrs_list PySem.F.slot_list_append PySem.F.type_list_append mt_append (pv 6) (pa_cons (pe_cmpR op_gt (pe_callB call_len (by rfl) T.b_len (by decide +kernel) (pa_cons (pv 8) pa_nil)) pe_int (nomark _)) pa_nil)))
      (pss_one (ps_if (PW.pt (pw_and (pt_val (pe_ix ix_list (pv 3) (pv 7) (fun _ _ => rfl))) (pw_and1 (pt_cmpR op_eq (pe_callB call_len (by rfl) T.b_len (by decide +kernel) (pa_cons (pv 8) pa_nil)) pe_int (nomark _))))) (pss_one (ps_asg (pv 5) (pg_sub (pv 4) (pv 7) set_list))) pss_nil)))))
      (pss_one (ps_set (i := 3) sc__law_longest.nd rfl (Or.inr rfl) (pv 6))))))
      (pss_one (ps_ret (pe_callTy (tupOfT (K := K) rfl) (by rfl) T.b_tuple (by decide +kernel) (pa_cons (pv 4) pa_nil)))))))), ?_⟩
    obtain ⟨pc, pq, xs, rfl, hpc, hpq, hA⟩ := chn_at hC
    have xl := dpA_len hA
    rw [List.length_map] at xl
    have few := ok.few
    have nl : (nx C z).length = C.length := by
      unfold nx
      rw [List.length_map]
    refine ⟨_, rfl, pc, _, _, _, rfl, rfl, hpc, atI_nat (j := 2) rfl, _, _, rfl, .inr ⟨_, hpq, rfl⟩, ?_⟩
    rw [xl]
    refine ⟨by show 1 ≤ sizeLine; decide, fun q1 hq1 => ⟨_, rfl, q1, _, _, rfl, rfl, upd_same, by omega, by omega, line5 (by show 1 * _ ≤ _; omega), fun a ha => ?_⟩⟩
    rw [Int.toNat_natCast, rep_list]
    have s1 := (same_new (o := .lst [.bl true]) hq1).trans (same_new (o := .lst (List.replicate C.length (.bl true))) ha)
    have ha1 := upd_same (H := upd H q1 (.lst [.bl true])) (a := a) (o := .lst (List.replicate C.length (.bl true)))
    generalize upd (upd H q1 (.lst [.bl true])) a (.lst (List.replicate C.length (.bl true))) = H1 at s1 ha1
    refine ⟨by show 1 ≤ sizeLine; decide, fun q2 hq2 => ⟨_, rfl, q2, _, _, rfl, rfl, upd_same, by omega, by omega, line5 (by show 1 * _ ≤ _; omega), fun Lr hLr => ?_⟩⟩
    rw [Int.toNat_natCast, rep_list]
    have s12 := (same_new (o := .lst [.int 0]) hq2).trans (same_new (o := .lst (List.replicate C.length (.int 0))) hLr)
    have s2 := s1.trans s12
    have hLr2 := upd_same (H := upd H1 q2 (.lst [.int 0])) (a := Lr) (o := .lst (List.replicate C.length (.int 0)))
    have ha2 := s12 _ _ ha1
    have aL : a ≠ Lr := ne_of_none (same_new (o := .lst [.int 0]) hq2 _ _ ha1) hLr
    have hLr0 : H Lr = none := by
      cases e : H Lr with
      | none => rfl
      | some o =>
        rw [(s1.trans (same_new (o := .lst [.int 0]) hq2)) _ _ e] at hLr
        cases hLr
    generalize upd (upd H1 q2 (.lst [.int 0])) Lr (.lst (List.replicate C.length (.int 0))) = H2 at s2 hLr2 ha2
    have e0 : List.replicate C.length (V.int 0) = (fnd (nx C z) 0).map vN := by
      show _ = ((List.range (nx C z).length).map fun _ => 0).map vN
      rw [List.map_const', List.length_range, List.map_replicate, nl]
      rfl
    have e1 : List.replicate C.length (V.bl true) = alv (nx C z) 0 := by
      unfold alv
      rw [show (fun s => V.bl (decide (ga (fnd (nx C z) 0) s = 0))) = fun _ => V.bl true from funext fun s => by rw [fnd_0]; rfl, List.map_const', List.length_range, nl]
    rw [e0] at hLr2
    rw [e1] at ha2
    refine ⟨_, rfl, _, _, rfl, rfl, ?_⟩
    have en : ((C.length : Int) + 1 - 1).toNat = C.length := by omega
    refine ⟨_, _, rfl, ⟨by decide, by decide, by omega, by omega⟩, for_range (lo := 1) (n := ((C.length : Int) + 1 - 1).toNat) (fun i σ H' => ∃ (a : Addr) (y5 y6 y7 y8 : Option V), σ = [some (.ref pc), some (.str z), some (.int (C.length : Int)), some (.ref a), some (.ref Lr), y5, y6, y7, y8, none] ∧ Same H H' ∧ a ≠ Lr ∧ H' a = some (.lst (alv (nx C z) i)) ∧ H' Lr = some (.lst ((fnd (nx C z) i).map vN))) ⟨a, _, _, _, _, rfl, s2, aL, ha2, hLr2⟩ ?_ ?_⟩
    · rintro i σ H3 hi ⟨a, y5, y6, y7, y8, rfl, s3, aL, ha3, hLr3⟩
      rw [en] at hi
      refine ⟨Nat.zero_le _, fun F0 hF => ?_⟩
      have FL : F0 ≠ Lr := (ne_of_none hLr3 hF).symm
      have Fa : F0 ≠ a := (ne_of_none ha3 hF).symm
      have s4 := s3.trans (same_new (o := .lst []) hF)
      have hF4 := upd_same (H := H3) (a := F0) (o := .lst [])
      have ha4 := same_new (o := .lst []) hF _ _ ha3
      have hLr4 := same_new (o := .lst []) hF _ _ hLr3
      have hF0 : H F0 = none := by
        cases e : H F0 with
        | none => rfl
        | some o =>
          rw [s3 _ _ e] at hF
          cases hF
      generalize upd H3 F0 (.lst []) = H4 at s4 hF4 ha4 hLr4
      refine ⟨_, rfl, _, rfl, by omega, by omega, for_range (lo := 0) (n := C.length) (fun j σ H' => ∃ (y7 y8 : Option V), σ = [some (.ref pc), some (.str z), some (.int (C.length : Int)), some (.ref a), some (.ref Lr), some (.int (1 + (i : Int))), some (.ref F0), y7, y8, none] ∧ Same H H' ∧ H' a = some (.lst (alv (nx C z) i)) ∧ H' F0 = some (.lst ((List.range j).map fun s => .bl (decide (ga (fnd (nx C z) (i + 1)) s = 0)))) ∧ H' Lr = some (.lst ((mid (nx C z) i j).map vN))) ⟨_, _, rfl, s4, ha4, hF4, by rw [mid_0]; exact hLr4⟩ ?_ ?_⟩
      · rintro j σ H5 hj ⟨y7, y8, rfl, s5, ha5, hF5, hLr5⟩
        rw [Int.zero_add]
        obtain ⟨xr, hxr, hdr⟩ := dpA_get hA (rowOf_at hj)
        obtain ⟨pr, rs, rfl, hpr, hrs⟩ := dp_tup hdr
        have rl := dpA_len hrs
        rw [List.length_map] at rl
        have okr := ok.row _ (List.mem_of_getElem? (rowOf_at hj))
        have few' := okr.few
        have hj' : j < (nx C z).length := by rw [nl]; exact hj
        refine ⟨_, rfl, pc, _, _, _, rfl, rfl, same_t s5 hpc, atI_nat (j := 2) rfl, _, rfl, pq, _, _, _, rfl, rfl, same_t s5 hpq, atI_nat hxr, pr, rfl, ⟨_, same_t s5 hpr⟩, fun M hM => lc_tup (K := K) (a := pr) (xs := rs) (fun k H' => Same H5 H' ∧ ∃ us : List V, H' M = some (.lst us) ∧ us.length = (((rowOf C j).take k).filter (onp z (fnd (nx C z) i))).length) ⟨same_new hM, [], upd_same, rfl⟩ (fun k H' _ e => same_t (s5.trans e.1) hpr) ?_ ?_⟩
        · rintro k y H6 hk ⟨s6, us, hM6, ul⟩
          obtain ⟨br, hbr, hy⟩ := dpA_mem (dpA_same (s5.trans s6) _ _ hrs) hk
          obtain ⟨pb, x0, x1, rfl, hpb, hd0, hd1⟩ := br_at hy
          obtain ⟨p1, rfl, hp1⟩ := sh_at hd1
          have okb := okr.to br (List.mem_of_getElem? hbr)
          have fl := List.length_filter_le (onp z (fnd (nx C z) i)) ((rowOf C j).take k)
          rw [List.length_take] at fl
          refine ⟨rfl, _, rfl, _, rfl, pb, _, _, _, rfl, rfl, hpb, atI_nat (j := 1) rfl, p1, _, rfl, .inr hp1, rfl, flat_strs _, ?_⟩
          rw [inV_str]
          refine ⟨_, rfl, ?_⟩
          have ft := take_snoc hbr
          refine ite2 (fun h => ?_) (fun h => ?_)
          · have h' : (!decide (z ∈ br.2.1)) = true := h
            have tl : br.2.2 < (nx C z).length := by
              rw [nl]
              exact okb.1
            refine ⟨_, rfl, _, rfl, pb, _, _, _, rfl, rfl, hpb, atI_nat (j := 2) rfl, a, _, _, _, rfl, rfl, SqL.of (s6 _ _ ha5), alv_at tl, _, rfl, ?_⟩
            refine ite2 (fun g => ?_) (fun g => ?_)
            · refine ⟨_, rfl, us, hM6, line6 (by omega), same_mut s6 hM, us ++ [.ref pb], upd_same, ?_⟩
              have : onp z (fnd (nx C z) i) br = true := by
                unfold onp
                rw [h', g]
                rfl
              rw [ft, List.filter_append, List.filter_cons_of_pos this, List.filter_nil, List.length_append, List.length_append, ul]
              rfl
            · refine ⟨s6, us, hM6, ?_⟩
              have : ¬ onp z (fnd (nx C z) i) br = true := fun o => by
                unfold onp at o
                rw [Bool.and_eq_true] at o
                exact g o.2
              rw [ft, List.filter_append, List.filter_cons_of_neg this, List.filter_nil, List.append_nil]
              exact ul
          · refine ⟨s6, us, hM6, ?_⟩
            have : ¬ onp z (fnd (nx C z) i) br = true := fun o => by
              unfold onp at o
              rw [Bool.and_eq_true] at o
              exact h o.1
            rw [ft, List.filter_append, List.filter_cons_of_neg this, List.filter_nil, List.append_nil]
            exact ul
        · rintro H6 ⟨s6, us, hM6, ul⟩
          rw [rl, List.take_length] at ul
          have ha6 := s6 _ _ ha5
          have hF6 := s6 _ _ hF5
          have hLr6 := s6 _ _ hLr5
          have ev : decide ((0 : Int) < (us.length : Int)) = decide (ga (fnd (nx C z) (i + 1)) j = 0) := by
            rw [alive_step hj', on_any, ← ul, Bool.eq_iff_iff, decide_eq_true_iff, decide_eq_true_iff]
            omega
          refine ⟨_, rfl, .inl ⟨rfl, _, SqL.of hF6⟩, _, rfl, _, _, rfl, .inl ⟨_, SqL.of hM6, rfl⟩, _, _, rfl, rfl, F0, _, V.bl (decide (ga (fnd (nx C z) (i + 1)) j = 0)), rfl, congrArg (fun c => [V.bl c]) ev, hF6, line6 (by rw [List.length_map, List.length_range]; omega), ?_⟩
          have s7 : Same H (upd H6 F0 (.lst (((List.range j).map fun s => V.bl (decide (ga (fnd (nx C z) (i + 1)) s = 0))) ++ [V.bl (decide (ga (fnd (nx C z) (i + 1)) j = 0))]))) := same_mut (s5.trans s6) hF0
          have hF7 : (upd H6 F0 (.lst (((List.range j).map fun s => V.bl (decide (ga (fnd (nx C z) (i + 1)) s = 0))) ++ [V.bl (decide (ga (fnd (nx C z) (i + 1)) j = 0))]))) F0 = some (.lst ((List.range (j + 1)).map fun s => V.bl (decide (ga (fnd (nx C z) (i + 1)) s = 0)))) := by
            rw [upd_same, List.range_succ, List.map_append]
            rfl
          have ha7 : (upd H6 F0 (.lst (((List.range j).map fun s => V.bl (decide (ga (fnd (nx C z) (i + 1)) s = 0))) ++ [V.bl (decide (ga (fnd (nx C z) (i + 1)) j = 0))]))) a = some (.lst (alv (nx C z) i)) := by
            rw [upd_ne Fa.symm]
            exact ha6
          have hLr7 : (upd H6 F0 (.lst (((List.range j).map fun s => V.bl (decide (ga (fnd (nx C z) (i + 1)) s = 0))) ++ [V.bl (decide (ga (fnd (nx C z) (i + 1)) j = 0))]))) Lr = some (.lst ((mid (nx C z) i j).map vN)) := by
            rw [upd_ne FL.symm]
            exact hLr6
          have hM7 : (upd H6 F0 (.lst (((List.range j).map fun s => V.bl (decide (ga (fnd (nx C z) (i + 1)) s = 0))) ++ [V.bl (decide (ga (fnd (nx C z) (i + 1)) j = 0))]))) M = some (.lst us) := by
            rw [upd_ne (ne_of_none hF5 hM).symm]
            exact hM6
          generalize upd H6 F0 (.lst (((List.range j).map fun s => V.bl (decide (ga (fnd (nx C z) (i + 1)) s = 0))) ++ [V.bl (decide (ga (fnd (nx C z) (i + 1)) j = 0))])) = H7 at s7 hF7 ha7 hLr7 hM7
          have rd := on_rdy (C := C) (z := z) (g := fnd (nx C z) i) (s := j)
          have stay : ¬ rdy (nx C z) (fnd (nx C z) i) j = true → mid (nx C z) i (j + 1) = mid (nx C z) i j := fun h => mid_same (by rw [fnd_s hj', if_neg h])
          refine ⟨_, rfl, _, rfl, a, _, _, _, rfl, rfl, SqL.of ha7, alv_at hj', _, rfl, ?_⟩
          refine ite2 (fun g => ⟨_, rfl, _, _, rfl, .inl ⟨_, SqL.of hM7, rfl⟩, rfl, _, rfl, ?_⟩) (fun g => ?_)
          · refine ite2 (fun g2 => ?_) (fun g2 => ?_)
            · have u0 : us.length = 0 := by
                have : V.int ((us.length : Nat) : Int) = V.int 0 := of_decide_eq_true g2
                have := V.int.inj this
                omega
              have r : rdy (nx C z) (fnd (nx C z) i) j = true := by
                rw [rd, g, ← ul, decide_eq_true u0]
                rfl
              refine ⟨_, rfl, _, rfl, _, rfl, Lr, _, _, j, rfl, rfl, hLr7, Evl.ixN_nat (by rw [List.length_map, mid_len]; exact hj'), _, _, rfl, same_mut s7 hLr0, ?_, ?_, ?_⟩
              · rw [upd_ne aL]
                exact ha7
              · rw [upd_ne FL]
                exact hF7
              · rw [upd_same, ← mid_set, List.map_set, fnd_s hj', if_pos r]
                have : V.int (1 + (i : Int)) = vN (i + 1) := by
                  show _ = V.int (((i + 1 : Nat)) : Int)
                  congr 1
                  omega
                rw [this]
            · refine ⟨_, _, rfl, s7, ha7, hF7, ?_⟩
              rw [stay fun r => ?_]
              · exact hLr7
              · rw [rd, Bool.and_eq_true] at r
                have u0 := of_decide_eq_true r.2
                rw [← ul] at u0
                exact g2 (by show decide (V.int ((us.length : Nat) : Int) = V.int 0) = true; rw [u0]; exact decide_eq_true rfl)
          · refine ⟨_, _, rfl, s7, ha7, hF7, ?_⟩
            rw [stay fun r => g (decide_eq_true (rdy_iff.mp r).1)]
            exact hLr7
      · rintro σ H5 ⟨y7, y8, rfl, s5, ha5, hF5, hLr5⟩
        rw [← nl, mid_end] at hLr5
        exact ⟨_, rfl, F0, _, _, _, _, rfl, s5, FL, by unfold alv; rw [nl]; exact hF5, hLr5⟩
    · rintro σ H3 ⟨a, y5, y6, y7, y8, rfl, s3, aL, ha3, hLr3⟩
      rw [en] at hLr3
      refine ⟨_, rfl, Lr, _, rfl, .inl ⟨SqL.of hLr3, fun p hp => ?_⟩⟩
      refine q _ p (s3.trans (same_new hp)) ?_
      rw [upd_same]
      unfold rk
      rw [nl]
end
end Mt
namespace Mt
open PySem PySem.Spec PyProof.Rows L2
theorem tupKK {X : Cx} {K : PySem.W.Frag} (h : X.K = K) : CallR X (.type "tuple") (fun xs H Q => ∃ p ys, xs = [.ref p] ∧ SqL K H p ys ∧ ∀ l (o : Obj), H l = none → o.dict = none → Q (.ref l) (upd H l (.frz o (.tup ys)))) := h ▸ SR.cr_tupleK
/-- worths: a tuple of pairs -/
def WAt (K : PySem.W.Frag) (H : Hp) (v : V) (W : List (Str × Int)) : Prop := ∃ (a : Addr) (ps : List SR.Ptr), v = .ref a ∧ SR.TupK H a (ps.map fun p => V.ref p.1) ∧ (∀ p ∈ ps, SqT K H p.1 [.str p.2.1, .int p.2.2]) ∧ ps.map (·.2) = W
theorem WAt.same {K : PySem.W.Frag} {H H' : Hp} {v : V} {W : List (Str × Int)} (s : Same H H') (h : WAt K H v W) : WAt K H' v W := by
  obtain ⟨a, ps, e, ⟨o, h1, h2⟩, h3, h4⟩ := h
  exact ⟨a, ps, e, ⟨o, s _ _ h1, h2⟩, fun p hp => same_t s (h3 p hp), h4⟩
theorem WAt.go {K : PySem.W.Frag} {S D : Addr} {H H' : Hp} {v : V} {W : List (Str × Int)} (d : DrawAt S D H) (g : Go S D H H') (h : WAt K H v W) : WAt K H' v W := by
  obtain ⟨a, ps, e, ⟨o, h1, h2⟩, h3, h4⟩ := h
  have n : a ≠ D := fun e => by
    obtain ⟨_, _, _, _, hD⟩ := d.at_
    rw [e, hD] at h1
    cases h1
  exact ⟨a, ps, e, ⟨o, g.2 _ _ h1 n, h2⟩, fun p hp => sqt_keep (Go.keepT d g) (h3 p hp), h4⟩
def spWorths (K : PySem.W.Frag) : Sp := fun vs H Q _ => ∃ (S D m : Addr) (ms : List Str), vs = [.ref D, .ref m] ∧ DrawAt S D H ∧ m ≠ D ∧ H m = some (.lst (ms.map V.str)) ∧ ms.Nodup ∧ ms.length ≤ 100 ∧
  ∀ (H' : Hp) (v : V) (W : List (Str × Int)), Go S D H H' → WAt K H' v W → (W.map (·.1)).Nodup → W.length ≤ 100 → (∀ e ∈ W, e.2.natAbs ≤ 99) → Q v H'
def dPr (z : Str × Int) : PyData := .tuple [.str z.1, .int z.2]
theorem srt_prs (l : List (Str × Int)) : SR.SrtOk (l.map dPr) := by
  refine ⟨PySem.W.AllAlike.of fun a b => ?_, .inl (.inl fun d hd => ?_), fun d hd => ?_⟩
  · show PySem.W.alike (dPr a) (dPr b) = true
    simp [dPr, PySem.W.alike, PySem.W.alikeAll]
  · obtain ⟨w, hw, rfl⟩ := List.mem_map.mp hd
    exact ⟨_, _, rfl⟩
  · obtain ⟨w, hw, rfl⟩ := List.mem_map.mp hd
    simp [dPr, PyData.depth, PyData.depthAll]
section
variable {P : Program} {w : World} {K : PySem.W.Frag} {mg : Str → Option Value} {base : Heap}
theorem ok__law_drawn_worths (T : Txt K mg) (D__law_draw : Kept P w K mg base 1 "_law_draw" ["d", "many"] spDraw) (D__law_pick : Kept P w K mg base 2 "_law_pick" ["d", "row"] (spPick K)) {f : Addr} {fd : FuncData} (F : FnP K "_law_drawn_worths" s__law_drawn_worths f fd) : FnOk P w K mg base CX0 3 f fd ["d", "marks"] (spWorths K) := by
  refine F.ok sc__law_drawn_worths (fun vs H Q E h => ?_) (fun cdv A outer s H vs Q E hr h => ?_)
  · obtain ⟨S, D, m, ms, rfl, _⟩ := h
    rfl
  · obtain ⟨S, D, m, ms, rfl, d, nD, hm, nd, hl, q⟩ := h
    refine ⟨_, PSs.nox (pss_cons (ps_set (i := 2) sc__law_drawn_worths.nd rfl (Or.inl rfl) (pe_lst pa_nil))
      (pss_cons (ps_for PassesOwn.never rfl (pi_list (pv 1)) (pg_name (i := 3) sc__law_drawn_worths.nd rfl (Or.inl rfl)) (pss_cons (ps_set (i := 4) sc__law_drawn_worths.nd rfl (Or.inl rfl) (pe_d D__law_draw (hr.mono (by decide)) (by rfl) (pa_cons (pv 0) (pa_cons pe_int pa_nil))))
      (pss_one (ps_if (pt_cmpR op_eq (pv 4) pe_int (nomark _)) (pss_one (ps_expr (pe_bm PySem.F.plainAttrs_list PySem.F.slot_list_append PySem.F.type_list_append mt_append (pv 2) (pa_cons (pe_tup (pa_cons (pv 3) (pa_cons (pe_d D__law_pick (hr.mono (by decide)) (by rfl) (pa_cons (pv 0) (pa_cons (pe_lst (pa_cons (pe_un un_neg pe_int) (pa_cons pe_int pa_nil))) pa_nil))) pa_nil))) pa_nil)))) (pss_one (ps_if (pt_cmpR op_eq (pv 4) pe_int (nomark _)) (pss_one (ps_expr (pe_bm PySem.F.plainAttrs_list PySem.F.slot_list_append PySem.F.type_list_append mt_append (pv 2) (pa_cons (pe_tup (pa_cons (pv 3) (pa_cons (pe_op op_sub (pe_d D__law_draw (hr.mono (by decide)) (by rfl) (pa_cons (pv 0) (pa_cons pe_int pa_nil))) pe_int) pa_nil))) pa_nil)))) (pss_one (ps_if (pt_cmpR op_gt (pv 4) pe_int (nomark _)) (pss_one (ps_expr (pe_bm PySem.F.plainAttrs_list PySem.F.slot_list_append PySem.F.type_list_append mt_append (pv 2) (pa_cons (pe_tup (pa_cons (pv 3) (pa_cons (pe_op op_sub (pe_d D__law_draw (hr.mono (by decide)) (by rfl) (pa_cons (pv 0) (pa_cons pe_int pa_nil))) pe_int) pa_nil))) pa_nil)))) pss_nil))))))))
      (pss_one (ps_ret (pe_callTy (tupKK (K := K) rfl) (by rfl) T.b_tuple (by decide +kernel) (pa_cons (pe_callB (srtK (K := K) rfl hr.units) (by rfl) T.b_sorted (by decide +kernel) (pa_cons (pv 2) pa_nil)) pa_nil)))))), ?_⟩
    refine ⟨Nat.zero_le _, fun L hL => ?_⟩
    have gL := Go.new (o := .lst []) d hL
    have LD := (d.free hL).1
    have hL7 := upd_same (H := H) (a := L) (o := .lst [])
    generalize upd H L (.lst []) = H7 at gL hL7
    refine ⟨_, rfl, m, rfl, ⟨_, SqL.of (gL.2 _ _ hm nD)⟩, for_list (K := K) (a := m) (xs := ms.map V.str) (fun i σ H' => ∃ (y3 y4 : Option V) (ps : List SR.Ptr), σ = [some (.ref D), some (.ref m), some (.ref L), y3, y4] ∧ Go S D H H' ∧ H' L = some (.lst (ps.map fun p => .ref p.1)) ∧ (∀ p ∈ ps, SqT K H' p.1 [.str p.2.1, .int p.2.2]) ∧ (ps.map (·.2.1)).Sublist (ms.take i) ∧ ∀ p ∈ ps, p.2.2.natAbs ≤ 99) ⟨_, _, [], rfl, gL, hL7, fun _ h => absurd h List.not_mem_nil, List.nil_sublist _, fun _ h => absurd h List.not_mem_nil⟩ (fun i σ H' _ ⟨_, _, _, _, g, _⟩ => SqL.of (g.2 _ _ hm nD)) ?_ ?_⟩
    · rintro i x σ H8 hi ⟨y3, y4, ps, rfl, g8, hL8, hps, hsub, hbd⟩
      obtain ⟨z, hz, rfl⟩ : ∃ z, ms[i]? = some z ∧ .str z = x := by
        rw [List.getElem?_map] at hi
        cases e : ms[i]? with
        | none =>
          rw [e] at hi
          cases hi
        | some z =>
          rw [e] at hi
          exact ⟨z, rfl, Option.some.inj hi⟩
      have il := (List.getElem?_eq_some_iff.mp hz).1
      have pl := hsub.length_le
      rw [List.length_map, List.length_take] at pl
      have et : ms.take (i + 1) = ms.take i ++ [z] := by
        rw [List.take_add_one, hz]
        rfl
      have addp : ∀ (H9 : Hp) (i9 : Int) (p : Addr), Go S D H8 H9 → H9 p = none → i9.natAbs ≤ 99 → upd H9 p (.tup [.str z, .int i9]) L = some (.lst (ps.map fun p => .ref p.1)) ∧ (ps.map fun p => V.ref p.1).length < sizeLine ∧
          ∃ ps2 : List SR.Ptr, Go S D H (upd (upd H9 p (.tup [.str z, .int i9])) L (.lst ((ps.map fun p => V.ref p.1) ++ [.ref p]))) ∧ upd (upd H9 p (.tup [.str z, .int i9])) L (.lst ((ps.map fun p => V.ref p.1) ++ [.ref p])) L = some (.lst (ps2.map fun p => .ref p.1)) ∧ (∀ q ∈ ps2, SqT K (upd (upd H9 p (.tup [.str z, .int i9])) L (.lst ((ps.map fun p => V.ref p.1) ++ [.ref p]))) q.1 [.str q.2.1, .int q.2.2]) ∧ (ps2.map (·.2.1)).Sublist (ms.take (i + 1)) ∧ ∀ p ∈ ps2, p.2.2.natAbs ≤ 99 := by
        intro H9 i9 p g9 hp h99
        have gp := g9.trans (Go.new (o := .tup [.str z, .int i9]) g9.1 hp)
        have hL10 := gp.2 _ _ hL8 LD
        have hp10 := upd_same (H := H9) (a := p) (o := .tup [.str z, .int i9])
        generalize upd H9 p (.tup [.str z, .int i9]) = H10 at gp hL10 hp10
        have kL := keepT_nt (o := .lst ((ps.map fun p => V.ref p.1) ++ [.ref p])) (nt_lst _) hL10
        refine ⟨hL10, by rw [List.length_map]; exact line6 (by omega), ps ++ [(p, z, i9)], goU hL d (g8.trans gp), by rw [upd_same, List.map_append]; rfl, fun q hq => ?_, ?_, fun q hq => ?_⟩
        · rcases List.mem_append.mp hq with h | h
          · exact sqt_keep kL (sqt_keep (Go.keepT g8.1 gp) (hps q h))
          · rw [List.mem_singleton.mp h]
            exact sqt_keep kL (SqT.of hp10)
        · rw [et, List.map_append]
          exact hsub.append (List.Sublist.refl _)
        · rcases List.mem_append.mp hq with h | h
          · exact hbd q h
          · rw [List.mem_singleton.mp h]
            exact h99
      refine ⟨_, rfl, S, D, 6, rfl, divW_of (by decide) (by decide), g8.1, fun H9 v v0 v1 g9 => ?_⟩
      refine ⟨_, rfl, rfl, _, rfl, ite2 (fun _ => ?_) (fun _ => ⟨_, rfl, rfl, _, rfl, ite2 (fun _ => ?_) (fun _ => ⟨_, rfl, _, _, rfl, rfl, _, rfl, ite2 (fun _ => ?_) (fun _ => ?_)⟩)⟩)⟩
      · refine ⟨_, rfl, .inl ⟨rfl, _, SqL.of (g9.2 _ _ hL8 LD)⟩, _, rfl, _, rfl, _, rfl, by show 2 ≤ sizeLine; decide, fun l hl0 => ?_⟩
        have gl := g9.trans (Go.new (o := .lst [V.int (-99), .int 99]) g9.1 hl0)
        have hl1 := upd_same (H := H9) (a := l) (o := .lst [V.int (-99), .int 99])
        have lD := (g9.1.free hl0).1
        refine ⟨S, D, .ref l, [V.int (-99), .int 99], rfl, gl.1, fun H' g => .inr (.inl ⟨l, rfl, SqL.of (g.2 _ _ hl1 lD)⟩), by decide, by decide, fun H10 x hx g10 => ?_⟩
        obtain ⟨i9, rfl, h99⟩ : ∃ i9 : Int, x = .int i9 ∧ i9.natAbs ≤ 99 := by
          simp only [List.mem_cons, List.not_mem_nil, or_false] at hx
          rcases hx with e | e
          · exact ⟨_, e, by decide⟩
          · exact ⟨_, e, by decide⟩
        refine ⟨by show 2 ≤ sizeLine; decide, fun p hp => ?_⟩
        obtain ⟨a1, a2, ps2, a3, a4, a5, a6⟩ := addp H10 i9 p (gl.trans g10) hp h99
        exact ⟨L, _, _, rfl, rfl, a1, a2, _, _, ps2, rfl, a3, a4, a5, a6⟩
      · refine ⟨_, rfl, .inl ⟨rfl, _, SqL.of (g9.2 _ _ hL8 LD)⟩, _, rfl, _, rfl, S, D, 199, rfl, divW_of (by decide) (by decide), g9.1, fun H10 u u0 u1 g10 => ⟨_, _, rfl, rfl, by show 2 ≤ sizeLine; decide, fun p hp => ?_⟩⟩
        obtain ⟨a1, a2, ps2, a3, a4, a5, a6⟩ := addp H10 (u - 99) p (g9.trans g10) hp (by omega)
        exact ⟨L, _, _, rfl, rfl, a1, a2, _, _, ps2, rfl, a3, a4, a5, a6⟩
      · refine ⟨_, rfl, .inl ⟨rfl, _, SqL.of (g9.2 _ _ hL8 LD)⟩, _, rfl, _, rfl, S, D, 7, rfl, divW_of (by decide) (by decide), g9.1, fun H10 u u0 u1 g10 => ⟨_, _, rfl, rfl, by show 2 ≤ sizeLine; decide, fun p hp => ?_⟩⟩
        obtain ⟨a1, a2, ps2, a3, a4, a5, a6⟩ := addp H10 (u - 3) p (g9.trans g10) hp (by omega)
        exact ⟨L, _, _, rfl, rfl, a1, a2, _, _, ps2, rfl, a3, a4, a5, a6⟩
      · refine ⟨_, _, ps, rfl, g8.trans g9, g9.2 _ _ hL8 LD, fun p hp => sqt_keep (Go.keepT g8.1 g9) (hps p hp), ?_, hbd⟩
        rw [et]
        exact hsub.trans (List.sublist_append_left _ _)
    · rintro σ H8 ⟨y3, y4, ps, rfl, g8, hL8, hps, hsub, hbd⟩
      rw [List.length_map, List.take_length] at hsub
      have pl := hsub.length_le
      rw [List.length_map] at pl
      refine ⟨_, rfl, L, ps.map fun p => (V.ref p.1, dPr p.2), rfl, SqL.of (by rw [List.map_map]; exact hL8), fun b hb => ?_, ?_, fun ys q0 hy hq0 => ?_⟩
      · obtain ⟨p, hp, rfl⟩ := List.mem_map.mp hb
        exact .tup (hps p hp) (.cons (.str _) (.cons (.int _) .nil))
      · rw [List.map_map, show ((fun x : V × PyData => x.2) ∘ fun p : SR.Ptr => (V.ref p.1, dPr p.2)) = dPr ∘ (fun p : SR.Ptr => p.2) from rfl, ← List.map_map]
        exact srt_prs _
      · obtain ⟨ps2, hperm, rfl⟩ := perm_back hy
        have g9 := Go.new (o := .lst ((ps2.map fun p => (V.ref p.1, dPr p.2)).map (·.1))) g8.1 hq0
        refine ⟨q0, _, rfl, SqL.of upd_same, fun t o ht ho => ?_⟩
        have g10 := g9.trans (Go.new (o := .frz o (.tup ((ps2.map fun p => (V.ref p.1, dPr p.2)).map (·.1)))) g9.1 ht)
        refine q _ _ (ps2.map (·.2)) (g8.trans g10) ⟨t, ps2, rfl, ⟨o, by rw [upd_same, List.map_map]; rfl, ho⟩, fun p hp => sqt_keep (Go.keepT g8.1 g10) (hps p (hperm.mem_iff.mp hp)), rfl⟩ ?_ (by rw [List.length_map, hperm.length_eq]; omega) (fun e he => by
          obtain ⟨p, hp, rfl⟩ := List.mem_map.mp he
          exact hbd p (hperm.mem_iff.mp hp))
        rw [List.map_map]
        exact ((hperm.map (fun p : SR.Ptr => p.2.1)).nodup_iff).mpr (hsub.nodup nd)
end
end Mt
namespace Mt
open PySem PySem.Spec PyProof.Rows L2
def look (W : List (Str × Int)) (z : Str) : Int := ((W.find? fun e => decide (e.1 = z)).map (·.2)).getD 0
def wv (W : List (Str × Int)) (ss : List Str) : Int := (ss.map (look W)).sum
def cnt (z : Str) (ss : List Str) : Int := ((ss.filter fun o => decide (o = z)).length : Int)
theorem look_none {W : List (Str × Int)} {z : Str} (h : z ∉ W.map (·.1)) : look W z = 0 := by
  unfold look
  rw [List.find?_eq_none.mpr fun e he => ?_]
  · rfl
  · intro k
    exact h (List.mem_map.mpr ⟨e, he, of_decide_eq_true k⟩)
theorem look_cons {e : Str × Int} {W : List (Str × Int)} (h : e.1 ∉ W.map (·.1)) (z : Str) : look (e :: W) z = (if z = e.1 then e.2 else 0) + look W z := by
  by_cases k : z = e.1
  · rw [if_pos k, k, look_none h]
    unfold look
    rw [List.find?_cons_of_pos (by simp)]
    simp
  · rw [if_neg k, Int.zero_add]
    unfold look
    rw [List.find?_cons_of_neg (by simpa using fun h => k h.symm)]
theorem wv_nil (ss : List Str) : wv [] ss = 0 := by
  induction ss with
  | nil => rfl
  | cons a r ih =>
    show look [] a + wv [] r = 0
    rw [ih]
    rfl
theorem wv_cons {e : Str × Int} {W : List (Str × Int)} (h : e.1 ∉ W.map (·.1)) (ss : List Str) : wv (e :: W) ss = e.2 * cnt e.1 ss + wv W ss := by
  induction ss with
  | nil => simp [wv, cnt]
  | cons a r ih =>
    have h1 : wv (e :: W) (a :: r) = look (e :: W) a + wv (e :: W) r := rfl
    have h2 : wv W (a :: r) = look W a + wv W r := rfl
    rw [h1, h2, ih, look_cons h]
    have h3 : cnt e.1 (a :: r) = (if a = e.1 then 1 else 0) + cnt e.1 r := by
      unfold cnt
      by_cases k : a = e.1
      · rw [List.filter_cons_of_pos (by simpa using k), if_pos k, List.length_cons]
        omega
      · rw [List.filter_cons_of_neg (by simpa using k), if_neg k]
        omega
    rw [h3]
    split
    · rw [Int.mul_add]
      omega
    · simp only [Int.zero_add]
      omega
theorem wv_law : ∀ {W : List (Str × Int)}, (W.map (·.1)).Nodup → ∀ ss : List Str, wv W ss = (W.map fun e => e.2 * cnt e.1 ss).sum
  | [], _, ss => wv_nil ss
  | e :: W, nd, ss => by
    have nd2 : e.1 ∉ W.map (·.1) ∧ (W.map (·.1)).Nodup := List.nodup_cons.mp nd
    rw [wv_cons nd2.1, wv_law nd2.2]
    rfl
theorem valV_merge : ∀ (ps : List (Str × Int)) (acc : List (L2.Key × V)) (z : Str), (ps.map (·.1)).Nodup → (valV (mergeK acc (ps.map fun p => ((.inr p.1 : L2.Key), V.int p.2))) (.inr z)) = match ps.find? fun e => decide (e.1 = z) with
      | some e => some (.int e.2)
      | none => valV acc (.inr z)
  | [], _, _, _ => rfl
  | p :: r, acc, z, nd => by
    have nd2 : p.1 ∉ r.map (·.1) ∧ (r.map (·.1)).Nodup := List.nodup_cons.mp nd
    have e : mergeK acc ((p :: r).map fun p => ((.inr p.1 : L2.Key), V.int p.2)) = mergeK (putK acc (.inr p.1) (.int p.2)) (r.map fun p => ((.inr p.1 : L2.Key), V.int p.2)) := rfl
    rw [e, valV_merge r _ z nd2.2, valV_put]
    by_cases k : p.1 = z
    · rw [List.find?_cons_of_pos (by simpa using k)]
      have : r.find? (fun e => decide (e.1 = z)) = none := List.find?_eq_none.mpr fun e he q => nd2.1 (List.mem_map.mpr ⟨e, he, (of_decide_eq_true q).trans k.symm⟩)
      rw [this, if_pos (by rw [k])]
    · rw [List.find?_cons_of_neg (by simpa using k)]
      have : ¬ (Sum.inr z : L2.Key) = .inr p.1 := fun h => k (Sum.inr.inj h).symm
      rw [if_neg this]
theorem get_table {W : List (Str × Int)} (nd : (W.map (·.1)).Nodup) (z : Str) : (valV (mergeK [] (W.map fun p => ((.inr p.1 : L2.Key), V.int p.2))) (.inr z)).getD (.int 0) = .int (look W z) := by
  rw [valV_merge W [] z nd]
  unfold look
  split
  · rename_i e h
    rw [h]
    rfl
  · rename_i h
    rw [h]
    rfl
def spWorthOf (K : PySem.W.Frag) : Sp := fun vs H Q _ => ∃ (vw vs' : V) (W : List (Str × Int)) (ss : List Str), vs = [vw, vs'] ∧ WAt K H vw W ∧ (W.map (·.1)).Nodup ∧ W.length ≤ 1000 ∧ Dp K H vs' (dSh ss) ∧ ss.length ≤ 1000 ∧ ∀ H', Same H H' → Q (.int (wv W ss)) H'
section
variable {P : Program} {w : World} {K : PySem.W.Frag} {mg : Str → Option Value} {base : Heap}
theorem ok_worth_of (T : Txt K mg) {f : Addr} {fd : FuncData} (F : FnP K "worth_of" s_worth_of f fd) : FnOk P w K mg base CX0 1 f fd ["worths", "shown"] (spWorthOf K) := by
  refine F.ok sc_worth_of (fun vs H Q E h => ?_) (fun cdv A outer s H vs Q E hr h => ?_)
  · obtain ⟨vw, vs', W, ss, rfl, _⟩ := h
    rfl
  · obtain ⟨vw, vs', W, ss, rfl, hw, nd, hwl, hs, hsl, q⟩ := h
    refine ⟨_, PSs.nox (pss_cons (ps_set (i := 2) sc_worth_of.nd rfl (Or.inr rfl) (pe_callTy (SR.cr_dictT rfl) (by rfl) T.b_dict (by decide +kernel) (pa_cons (pv 0) pa_nil)))
      (pss_one (ps_ret (pe_callB (cr_sum rfl) (by rfl) T.b_sum (by decide +kernel) (pa_cons (pe_lc (own := [("mark", 3)]) (g := (gName 3)) (tt := tYes) rfl sc_worth_of.nd (pi_tup (pv 1)) (blkOk_by (N := N_worth_of) (sc := defScope s_worth_of) (by decide +kernel)) (fun _ _ _ _ _ => (pg_name (i := 3) sc_worth_of.nd rfl (Or.inl rfl))) (fun _ _ _ _ _ => pts_nil) (fun _ _ _ _ _ => (pe_dget2 (hu_of hr) (pv 2) (pv 3) pe_int ⟨rfl, rfl, rfl, rfl⟩))) pa_nil))))), ?_⟩
    obtain ⟨a, ps, rfl, hk, hps, rfl⟩ := hw
    obtain ⟨p, rfl, hp⟩ := sh_at hs
    refine ⟨_, rfl, a, ps, rfl, hk, hps, fun t ht => ?_⟩
    have e0 : (ps.map fun p => ((.inr p.2.1 : L2.Key), V.int p.2.2)) = (ps.map (·.2)).map fun p => ((.inr p.1 : L2.Key), V.int p.2) := by rw [List.map_map]; rfl
    rw [e0]
    have s1 := same_new (o := .dK (mergeK [] ((ps.map (·.2)).map fun p => ((.inr p.1 : L2.Key), V.int p.2)))) ht
    have ht1 := upd_same (H := H) (a := t) (o := .dK (mergeK [] ((ps.map (·.2)).map fun p => ((.inr p.1 : L2.Key), V.int p.2))))
    generalize upd H t (.dK (mergeK [] ((ps.map (·.2)).map fun p => ((.inr p.1 : L2.Key), V.int p.2)))) = H1 at s1 ht1
    refine ⟨_, rfl, p, rfl, ⟨_, same_t s1 hp⟩, fun L hL => lc_tup (K := K) (a := p) (xs := ss.map V.str) (fun i H' => Same H1 H' ∧ H' L = some (.lst (((ss.take i).map (look (ps.map (·.2)))).map V.int))) ⟨same_new hL, upd_same⟩ (fun i H' _ e => same_t (s1.trans e.1) hp) ?_ ?_⟩
    · rintro i x H2 hi ⟨s2, hL2⟩
      obtain ⟨z, hz, rfl⟩ : ∃ z, ss[i]? = some z ∧ .str z = x := by
        rw [List.getElem?_map] at hi
        cases e : ss[i]? with
        | none =>
          rw [e] at hi
          cases hi
        | some z =>
          rw [e] at hi
          exact ⟨z, rfl, Option.some.inj hi⟩
      have il := (List.getElem?_eq_some_iff.mp hz).1
      refine ⟨rfl, _, rfl, t, rfl, .inl ⟨_, .inl (s2 _ _ ht1)⟩, _, rfl, _, DGet.k (k := .inr z) (s2 _ _ ht1), ?_⟩
      rw [get_table nd]
      refine ⟨_, hL2, by rw [List.length_map, List.length_map, List.length_take]; exact line6 (by omega), same_mut s2 hL, ?_⟩
      rw [upd_same, List.take_add_one, hz, List.map_append, List.map_append]
      rfl
    · rintro H2 ⟨s2, hL2⟩
      rw [List.length_map, List.take_length] at hL2
      exact ⟨L, _, rfl, SqL.of hL2, q _ (s1.trans s2)⟩
end
end Mt
namespace Mt
open PySem PySem.Spec PyProof.Rows L2
abbrev cs_wr : Scope := { kind := .function, names := [(Str.ofString ".0", .local), (Str.ofString "row", .local), (Str.ofString "worths", .cell)], isGenerator := false, isCoroutine := false }
/-- worths as they are gone through -/
def WAtS (K : PySem.W.Frag) (H : Hp) (v : V) (W : List (Str × Int)) : Prop := ∃ (a : Addr) (ps : List SR.Ptr), v = .ref a ∧ SqT K H a (ps.map fun p => V.ref p.1) ∧ (∀ p ∈ ps, SqT K H p.1 [.str p.2.1, .int p.2.2]) ∧ ps.map (·.2) = W
theorem WAt.s {K : PySem.W.Frag} {H : Hp} {v : V} {W : List (Str × Int)} (h : WAt K H v W) : WAtS K H v W := let ⟨a, ps, e, h1, h2, h3⟩ := h; ⟨a, ps, e, h1.sqt, h2, h3⟩
theorem WAtS.keep {K : PySem.W.Frag} {H H' : Hp} {v : V} {W : List (Str × Int)} (k : KeepT H H') (h : WAtS K H v W) : WAtS K H' v W := let ⟨a, ps, e, h1, h2, h3⟩ := h; ⟨a, ps, e, sqt_keep k h1, fun p hp => sqt_keep k (h2 p hp), h3⟩
def spLWorth (K : PySem.W.Frag) : Sp := fun vs H Q _ => ∃ (vw vs' : V) (W : List (Str × Int)) (ss : List Str), vs = [vw, vs'] ∧ WAtS K H vw W ∧ (W.map (·.1)).Nodup ∧ W.length ≤ 1000 ∧ Dp K H vs' (dSh ss) ∧ ss.length ≤ 1000 ∧ ∀ H', Same H H' → Q (.int (wv W ss)) H'
def dE (e : Int × Nat) : PyData := .tuple [.int e.1, .int (e.2 : Int)]
def dWRow (r : List (Int × Nat)) : PyData := .list (r.map dE)
def dWR (R : List (List (Int × Nat))) : PyData := .list (R.map dWRow)
def wBr (W : List (Str × Int)) (b : Br) : Int × Nat := (wv W b.2.1, b.2.2)
def wRow (W : List (Str × Int)) (r : List Br) : List (Int × Nat) := r.map (wBr W)
def spWRows (K : PySem.W.Frag) : Sp := fun vs H Q _ => ∃ (vc vw : V) (base : Int) (C : Chn) (W : List (Str × Int)), vs = [vc, vw] ∧ Dp K H vc (dChn base C) ∧ ChnOk base C ∧ WAt K H vw W ∧ (W.map (·.1)).Nodup ∧ W.length ≤ 1000 ∧
  ∀ H' v, Same H H' → Dp K H' v (dWR (C.map (wRow W))) → Q v H'
section
variable {P : Program} {w : World} {K : PySem.W.Frag} {mg : Str → Option Value} {base : Heap}
theorem ok_worth_rows (T : Txt K mg) (D_worth_of : Kept P w K mg base 1 "worth_of" ["worths", "shown"] (spWorthOf K)) {f : Addr} {fd : FuncData} (F : FnP K "worth_rows" s_worth_rows f fd) : FnOk P w K mg base CX0 2 f fd ["chain", "worths"] (spWRows K) := by
  refine F.ok sc_worth_rows (fun vs H Q E h => ?_) (fun cdv A outer s H vs Q E hr h => ?_)
  · obtain ⟨vc, vw, b, C, W, rfl, _⟩ := h
    rfl
  · obtain ⟨vc, vw, b, C, W, rfl, hC, okC, hw, nd, hwl, q⟩ := h
    refine ⟨_, PSs.nox (pss_one (ps_ret (pe_lc (own := [("row", 5)]) (g := (gName 5)) (tt := tYes) rfl sc_worth_rows.nd (pi_tup (pe_ix ix_tup (pv 0) pe_int (fun _ _ => rfl))) (blkOk_by (N := N_worth_rows) (sc := defScope s_worth_rows) (by decide +kernel)) (fun _ _ _ _ _ => (pg_name (i := 5) sc_worth_rows.nd rfl (Or.inl rfl))) (fun _ _ _ _ _ => pts_nil) (fun _ _ _ _ _ => (pe_lc (own := [("_", 2), ("shown", 3), ("target", 4)]) (g := (gTup K 3 (gCons (gName 2) (gCons (gName 3) (gCons (gName 4) gNil))))) (tt := tYes) rfl sc_worth_rows.nd (piTK (K := K) rfl (pv 5)) (blkOk_by (N := N_worth_rows) (sc := cs_wr) (by decide +kernel)) (fun _ _ _ _ _ => (pg_tup rfl (pgs_cons (pg_name (i := 2) sc_worth_rows.nd rfl (Or.inl rfl)) (pgs_cons (pg_name (i := 3) sc_worth_rows.nd rfl (Or.inl rfl)) (pgs_cons (pg_name (i := 4) sc_worth_rows.nd rfl (Or.inl rfl)) pgs_nil))))) (fun _ _ _ _ _ => pts_nil) (fun _ _ _ _ _ => (pe_tup (pa_cons (pe_d D_worth_of (hr.mono (by decide)) (by rfl) (pa_cons (pv 1) (pa_cons (pv 3) pa_nil))) (pa_cons (pv 4) pa_nil))))))))), ?_⟩
    obtain ⟨pc, pq, xs, rfl, hpc, hpq, hA⟩ := chn_at hC
    have xl := dpA_len hA
    rw [List.length_map] at xl
    refine ⟨_, rfl, pc, _, _, _, rfl, rfl, hpc, atI_nat (j := 2) rfl, pq, rfl, ⟨_, hpq⟩, fun L hL => lc_tup (K := K) (a := pq) (xs := xs) (fun i H' => Same H H' ∧ FL K L H' ((C.take i).map fun r => dWRow (wRow W r))) ⟨same_new hL, FL.nil hL⟩ (fun i H' _ e => same_t e.1 hpq) ?_ ?_⟩
    · rintro i x H1 hi ⟨s1, fl⟩
      obtain ⟨r, hr1, hx⟩ := dpA_mem hA hi
      have il := (List.getElem?_eq_some_iff.mp hr1).1
      have okr := okC.row r (List.mem_of_getElem? hr1)
      have few := okC.few
      obtain ⟨pr, rs, rfl, hpr, hrs⟩ := dp_tup hx
      have rl := dpA_len hrs
      rw [List.length_map] at rl
      obtain ⟨zs, hL1, zl, _⟩ := id fl.d
      rw [List.length_map, List.length_take] at zl
      refine ⟨rfl, _, rfl, pr, rfl, ⟨_, same_t s1 hpr⟩, fun M hM => lc_tup (K := K) (a := pr) (xs := rs) (fun j H' => Same H1 H' ∧ ∃ qs, H' M = some (.lst qs) ∧ DpAll K H' qs ((r.take j).map fun b => dE (wBr W b))) ⟨same_new hM, [], upd_same, .nil⟩ (fun j H' _ e => same_t (s1.trans e.1) hpr) ?_ ?_⟩
      · rintro j y H2 hj ⟨s2, qs, hM2, hqs⟩
        obtain ⟨br, hbr, hy⟩ := dpA_mem hrs hj
        have jl := (List.getElem?_eq_some_iff.mp hbr).1
        have okb := okr.to br (List.mem_of_getElem? hbr)
        have fewr := okr.few
        have ql := dpA_len hqs
        rw [List.length_map, List.length_take] at ql
        have s12 := s1.trans s2
        obtain ⟨pb, x0', x1', rfl, hpb, hd0, hd1⟩ := br_at hy
        refine ⟨_, _, rfl, same_t s12 hpb, rfl, _, _, rfl, _, _, rfl, _, _, rfl, rfl, rfl, ?_⟩
        refine ⟨_, rfl, _, rfl, vw, x1', W, br.2.1, rfl, hw.same s12, nd, hwl, dp_same s12 _ _ hd1, by omega, fun H3 s3 => ⟨_, rfl, by show 2 ≤ sizeLine; decide, fun pe hpe => ?_⟩⟩
        have s4 := s3.trans (same_new (o := .tup [.int (wv W br.2.1), .int br.2.2]) hpe)
        have hpe4 := upd_same (H := H3) (a := pe) (o := .tup [.int (wv W br.2.1), .int br.2.2])
        generalize upd H3 pe (.tup [.int (wv W br.2.1), .int br.2.2]) = H4 at s4 hpe4
        have hM4 := s4 _ _ hM2
        refine ⟨qs, hM4, line6 (by omega), same_mut (s2.trans s4) hM, qs ++ [.ref pe], upd_same, ?_⟩
        have k4 := keepT_nt (o := .lst (qs ++ [.ref pe])) (nt_lst _) hM4
        rw [List.take_add_one, hbr, List.map_append]
        refine dpA_snoc (dpA_keep k4 _ _ (noLs_map _ _ fun _ _ => rfl) (dpA_same s4 _ _ hqs)) (.tup (sqt_keep k4 (SqT.of hpe4)) (.cons (.int _) (.cons (.int _) .nil)))
      · rintro H2 ⟨s2, qs, hM2, hqs⟩
        rw [rl, List.take_length] at hqs
        have hL2 := s2 _ _ hL1
        refine ⟨zs, hL2, line6 (by omega), same_mut (s1.trans s2) hL, ?_⟩
        rw [List.take_add_one, hr1, List.map_append]
        refine (fl.same s2).add hL2 fun o => ?_
        have nM : M ≠ L := (ne_of_none hL1 hM).symm
        have e : dWRow (wRow W r) = .list (r.map fun b => dE (wBr W b)) := by
          show PyData.list ((r.map (wBr W)).map dE) = _
          rw [List.map_map]
          rfl
        show Dp K (upd H2 L o) (.ref M) (dWRow (wRow W r))
        rw [e]
        exact .lst (SqL.of (by rw [upd_ne nM]; exact hM2)) (dpA_keep (keepT_nt (nt_lst _) hL2) _ _ (noLs_map _ _ fun _ _ => rfl) hqs)
    · rintro H1 ⟨s1, fl⟩
      rw [xl, List.take_length] at fl
      refine q _ _ s1 ?_
      have e : dWR (C.map (wRow W)) = .list (C.map fun r => dWRow (wRow W r)) := by
        show PyData.list ((C.map (wRow W)).map dWRow) = _
        rw [List.map_map]
        rfl
      rw [e]
      exact fl.dp
theorem ok__law_worth (T : Txt K mg) {f : Addr} {fd : FuncData} (F : FnP K "_law_worth" s__law_worth f fd) : FnOk P w K mg base CX0 1 f fd ["worths", "shown"] (spLWorth K) := by
  refine F.ok sc__law_worth (fun vs H Q E h => ?_) (fun cdv A outer s H vs Q E hr h => ?_)
  · obtain ⟨vw, vs', W, ss, rfl, _⟩ := h
    rfl
  · obtain ⟨vw, vs', W, ss, rfl, hw, nd, hwl, hs, hsl, q⟩ := h
    refine ⟨_, PSs.nox (pss_cons (ps_set (i := 2) sc__law_worth.nd rfl (Or.inl rfl) pe_int)
      (pss_cons (ps_for PassesOwn.never rfl (pi_tup (pv 0)) (pg_tup rfl (pgs_cons (pg_name (i := 3) sc__law_worth.nd rfl (Or.inr rfl)) (pgs_cons (pg_name (i := 4) sc__law_worth.nd rfl (Or.inl rfl)) pgs_nil))) (pss_one (ps_aug (i := 2) sc__law_worth.nd rfl (Or.inl rfl) (pe_op op_mul (pv 4) (pe_callB call_len (by rfl) T.b_len (by decide +kernel) (pa_cons (pe_lc (own := [("one", 5)]) (g := (gName 5)) rfl sc__law_worth.nd (pi_tup (pv 1)) (blkOk_by (N := N__law_worth) (sc := defScope s__law_worth) (by decide +kernel)) (fun _ _ _ _ _ => (pg_name (i := 5) sc__law_worth.nd rfl (Or.inl rfl))) (fun _ _ _ _ _ => (pts_one (pt_cmpR op_eq (pv 5) (pv 3) (nomark _)))) (fun _ _ _ _ _ => (pv 5))) pa_nil))) ip_add)))
      (pss_one (ps_ret (pv 2))))), ?_⟩
    obtain ⟨a, ps, rfl, hk, hps, rfl⟩ := hw
    obtain ⟨p, rfl, hp⟩ := sh_at hs
    rw [wv_law nd] at q
    have hT : SqT K H a (ps.map fun p => V.ref p.1) := hk
    refine ⟨_, rfl, a, rfl, ⟨_, hT⟩, for_tup (K := K) (a := a) (xs := ps.map fun p => V.ref p.1) (fun i σ H' => ∃ (y3 y4 y5 : Option V), σ = [some (.ref a), some (.ref p), some (.int (((ps.take i).map fun p => p.2.2 * cnt p.2.1 ss).sum)), y3, y4, y5] ∧ Same H H') ⟨_, _, _, rfl, Same.refl _⟩ (fun i σ H' _ ⟨_, _, _, _, s⟩ => same_t s hT) ?_ ?_⟩
    · rintro i x σ H1 hi ⟨y3, y4, y5, rfl, s1⟩
      obtain ⟨pt, hpt, rfl⟩ : ∃ pt, ps[i]? = some pt ∧ .ref pt.1 = x := by
        rw [List.getElem?_map] at hi
        cases e : ps[i]? with
        | none =>
          rw [e] at hi
          cases hi
        | some z =>
          rw [e] at hi
          exact ⟨z, rfl, Option.some.inj hi⟩
      refine ⟨_, _, rfl, same_t s1 (hps pt (List.mem_of_getElem? hpt)), rfl, _, _, rfl, _, _, rfl, rfl, ?_⟩
      refine ⟨_, rfl, _, rfl, _, rfl, p, rfl, ⟨_, same_t s1 hp⟩, fun L hL => lc_tup (K := K) (a := p) (xs := ss.map V.str) (fun j H' => Same H1 H' ∧ H' L = some (.lst (((ss.take j).filter fun o => decide (o = pt.2.1)).map V.str))) ⟨same_new hL, upd_same⟩ (fun j H' _ e => same_t (s1.trans e.1) hp) ?_ ?_⟩
      · rintro j x H2 hj ⟨s2, hL2⟩
        obtain ⟨z, hz, rfl⟩ : ∃ z, ss[j]? = some z ∧ .str z = x := by
          rw [List.getElem?_map] at hj
          cases e : ss[j]? with
          | none =>
            rw [e] at hj
            cases hj
          | some z =>
            rw [e] at hj
            exact ⟨z, rfl, Option.some.inj hj⟩
        have jl := (List.getElem?_eq_some_iff.mp hz).1
        have fl := List.length_filter_le (fun o => decide (o = pt.2.1)) (ss.take j)
        rw [List.length_take] at fl
        have ed : decide (V.str z = V.str pt.2.1) = decide (z = pt.2.1) := by
          by_cases k : z = pt.2.1
          · rw [k, decide_eq_true rfl, decide_eq_true rfl]
          · rw [decide_eq_false k, decide_eq_false fun h => k (V.str.inj h)]
        refine ⟨rfl, _, rfl, _, rfl, rfl, _, rfl, ?_⟩
        rw [ed, List.take_add_one, hz]
        by_cases k : z = pt.2.1
        · rw [decide_eq_true k]
          refine ⟨_, rfl, _, hL2, by rw [List.length_map]; exact line6 (by omega), same_mut s2 hL, ?_⟩
          rw [upd_same, List.filter_append, List.map_append]
          simp [k]
        · rw [decide_eq_false k]
          refine ⟨s2, ?_⟩
          rw [List.filter_append]
          simpa [k] using hL2
      · rintro H2 ⟨s2, hL2⟩
        rw [List.length_map, List.take_length] at hL2
        have fl := List.length_filter_le (fun o => decide (o = pt.2.1)) ss
        refine ⟨_, _, rfl, .inl ⟨_, SqL.of hL2, rfl⟩, _, _, rfl, rfl, .inr ⟨?_, ?_⟩, _, _, rfl, rfl, ?_⟩
        · rw [List.length_map]
          omega
        · rw [List.length_map]
          omega
        · have es : ((ps.take (i + 1)).map fun p => p.2.2 * cnt p.2.1 ss).sum = ((ps.take i).map fun p => p.2.2 * cnt p.2.1 ss).sum + pt.2.2 * (((ss.filter fun o => decide (o = pt.2.1)).map V.str).length : Int) := by
            rw [List.take_add_one, hpt, List.map_append, List.sum_append, List.length_map]
            simp [cnt]
          rw [es]
          exact ⟨_, _, _, rfl, s1.trans s2⟩
    · rintro σ H1 ⟨y3, y4, y5, rfl, s1⟩
      rw [List.length_map, List.take_length]
      rw [List.map_map] at q
      exact ⟨_, rfl, q _ s1⟩
end
end Mt
namespace Mt
open PySem PySem.Spec PyProof.Rows L2
theorem eqDK {X : Cx} {K : PySem.W.Frag} (h : X.K = K) (hu : X.A.units + 64 < cLine) : OpR X (compareOp .Eq) (rEqD K) := h ▸ op_eqD hu
/-- where a way of branches from s ends -/
def stA (s : Nat) (l : List Br) : Nat := match l.getLast? with
  | some b => b.2.2
  | none => s
theorem stA_snoc (s : Nat) (l : List Br) (b : Br) : stA s (l ++ [b]) = b.2.2 := by
  unfold stA
  rw [List.getLast?_append]
  rfl
/-- chains as they are walked, whole or not -/
structure ChS (C : Chn) : Prop where
  few : C.length ≤ 50
  row : ∀ r ∈ C, r.length ≤ 20 ∧ ∀ b ∈ r, b.2.2 < C.length ∧ b.2.1.length ≤ 6
theorem ChnOk.s {base : Int} {C : Chn} (h : ChnOk base C) : ChS C := ⟨h.few, fun r hr => ⟨(h.row r hr).few, (h.row r hr).to⟩⟩
def nxtB (r : List Br) (w : List Int) : Option Br := (r.filter fun x => decide (x.1 = w))[0]?
def alongB (C : Chn) : Nat → List (List Int) → Option (List Br)
  | _, [] => some []
  | s, w :: ws => match nxtB (rowOf C s) w with
    | none => none
    | some b => (alongB C b.2.2 ws).map (b :: ·)
theorem along_none {C : Chn} {s : Nat} {w : List Int} {ws : List (List Int)} (h : nxtB (rowOf C s) w = none) : alongB C s (w :: ws) = none := by
  unfold alongB
  rw [h]
theorem along_some {C : Chn} {s : Nat} {w : List Int} {ws : List (List Int)} {b : Br} (h : nxtB (rowOf C s) w = some b) : alongB C s (w :: ws) = (alongB C b.2.2 ws).map (b :: ·) := by
  conv => lhs; unfold alongB
  rw [h]
theorem nxt_mem {r : List Br} {w : List Int} {b : Br} (h : nxtB r w = some b) : b ∈ r := (List.mem_filter.mp (List.mem_of_getElem? h)).1
/-- the way so far -/
structure AlI (C : Chn) (s0 : Nat) (ws : List (List Int)) (i : Nat) (l : List Br) : Prop where
  eq : alongB C s0 ws = (alongB C (stA s0 l) (ws.drop i)).map (l ++ ·)
  st : stA s0 l < C.length
  len : l.length = i
  mem : ∀ b ∈ l, b.2.1.length ≤ 6
theorem AlI.zero {C : Chn} {s0 : Nat} {ws : List (List Int)} (h : s0 < C.length) : AlI C s0 ws 0 [] := ⟨by
  show alongB C s0 ws = (alongB C s0 ws).map ([] ++ ·)
  cases alongB C s0 ws <;> rfl, h, rfl, fun _ h => absurd h List.not_mem_nil⟩
theorem drop_at {α : Type} {l : List α} {i : Nat} {x : α} (h : l[i]? = some x) : l.drop i = x :: l.drop (i + 1) := by
  obtain ⟨hi, e⟩ := List.getElem?_eq_some_iff.mp h
  rw [List.drop_eq_getElem_cons hi, e]
theorem AlI.none {C : Chn} {s0 : Nat} {ws : List (List Int)} {i : Nat} {l : List Br} {w : List Int} (a : AlI C s0 ws i l) (hw : ws[i]? = some w) (h : nxtB (rowOf C (stA s0 l)) w = none) : alongB C s0 ws = none := by
  rw [a.eq, drop_at hw, along_none h]
  rfl
theorem AlI.more {C : Chn} {s0 : Nat} {ws : List (List Int)} {i : Nat} {l : List Br} {w : List Int} {b : Br} (ok : ChS C) (a : AlI C s0 ws i l) (hw : ws[i]? = some w) (h : nxtB (rowOf C (stA s0 l)) w = some b) : AlI C s0 ws (i + 1) (l ++ [b]) := by
  have hb := (ok.row _ (List.mem_of_getElem? (rowOf_at a.st))).2 b (nxt_mem h)
  refine ⟨?_, by rw [stA_snoc]; exact hb.1, by rw [List.length_append, a.len]; rfl, fun x hx => ?_⟩
  · rw [a.eq, drop_at hw, along_some h, stA_snoc, Option.map_map]
    congr 1
    funext x
    show l ++ b :: x = (l ++ [b]) ++ x
    rw [List.append_assoc]
    rfl
  · rcases List.mem_append.mp hx with h | h
    · exact a.mem x h
    · rw [List.mem_singleton.mp h]
      exact hb.2
theorem AlI.fin {C : Chn} {s0 : Nat} {ws : List (List Int)} {l : List Br} (a : AlI C s0 ws ws.length l) : alongB C s0 ws = some l := by
  rw [a.eq, List.drop_length]
  show (some []).map (l ++ ·) = some l
  rw [Option.map_some, List.append_nil]
def dWs (ws : List (List Int)) : PyData := .tuple (ws.map dI)
def ABOk (K : PySem.W.Frag) (H : Hp) (x : V) : Option (List Br) → Prop
  | none => x = .non
  | some l => Dp K H x (.list (l.map dBr))
def wsum (W : List (Str × Int)) (l : List Br) : Int := (l.map fun b => wv W b.2.1).sum
def LAOk (W : List (Str × Int)) (K : PySem.W.Frag) (H : Hp) (s : Nat) (x : V) : Option (List Br) → Prop
  | none => x = .non
  | some l => Dp K H x (.tuple [.int ((stA s l : Nat) : Int), .int (wsum W l)])
def spAlongG (K : PySem.W.Frag) : Sp := fun vs H Q _ => ∃ (vr vb : V) (s : Nat) (C : Chn) (ws : List (List Int)), vs = [vr, .int s, vb] ∧ Dp K H vr (.tuple (C.map dRw)) ∧ ChS C ∧ s < C.length ∧ ws.length ≤ 1000 ∧ Dp K H vb (dWs ws) ∧
  ∀ H' x, Same H H' → ABOk K H' x (alongB C s ws) → Q x H'
def spLAlong (K : PySem.W.Frag) : Sp := fun vs H Q _ => ∃ (vc vw vb : V) (s : Nat) (base : Int) (C : Chn) (W : List (Str × Int)) (ws : List (List Int)), vs = [vc, vw, .int s, vb] ∧ Dp K H vc (dChn base C) ∧ ChS C ∧ s < C.length ∧ WAtS K H vw W ∧ (W.map (·.1)).Nodup ∧ W.length ≤ 1000 ∧ ws.length ≤ 1000 ∧ Dp K H vb (dWs ws) ∧
  ∀ H' x, Same H H' → LAOk W K H' s x (alongB C s ws) → Q x H'
section
variable {P : Program} {w : World} {K : PySem.W.Frag} {mg : Str → Option Value} {base : Heap}
theorem ok_branches_along (T : Txt K mg) {f : Addr} {fd : FuncData} (F : FnP K "branches_along" s_branches_along f fd) : FnOk P w K mg base CX0 1 f fd ["rows", "state", "blocks"] (spAlongG K) := by
  refine F.ok sc_branches_along (fun vs H Q E h => ?_) (fun cdv A outer s H vs Q E hr h => ?_)
  · obtain ⟨vr, vb, s, C, ws, rfl, _⟩ := h
    rfl
  · obtain ⟨vr, vb, s0, C, ws, rfl, hR, ok, hs, hl, hb, q⟩ := h
    refine ⟨_, PSs.nox (pss_cons (ps_set (i := 3) sc_branches_along.nd rfl (Or.inl rfl) (pe_lst pa_nil))
      (pss_cons (ps_for PassesOwn.never rfl (pi_tup (pv 2)) (pg_name (i := 4) sc_branches_along.nd rfl (Or.inr rfl)) (pss_cons (ps_setLc (i := 5) (own := [("branch", 6)]) (g := (gName 6)) rfl sc_branches_along.nd rfl rfl (sw_true rfl rfl rfl (by decide +kernel)) (pi_tup (pe_ix ix_tup (pv 0) (pv 1) (fun _ _ => rfl))) (blkOk_by (N := N_branches_along) (sc := defScope s_branches_along) (by decide +kernel)) (fun _ _ _ _ _ => (pg_name (i := 6) sc_branches_along.nd rfl (Or.inl rfl))) (fun _ _ _ _ _ => (pts_one (pt_cmpR (eqDK (K := K) rfl (hr.units)) (pe_ix (ixT (K := K) rfl) (pv 6) pe_int (fun _ _ => rfl)) (pv 4) (nomark _)))) (fun _ _ _ _ _ => (pv 6)))
      (pss_cons (ps_if (pt_not (pt_truth (pv 5) (by intro _; rfl))) (pss_one (ps_ret pe_non)) pss_nil)
      (pss_cons (ps_expr (pe_bm PySem.F.plainAttrs_list PySem.F.slot_list_append PySem.F.type_list_append mt_append (pv 3) (pa_cons (pe_ix ix_list (pv 5) pe_int (fun _ _ => rfl)) pa_nil)))
      (pss_one (ps_set (i := 1) sc_branches_along.nd rfl (Or.inl rfl) (pe_ix ix_tup (pe_ix ix_list (pv 5) pe_int (fun _ _ => rfl)) pe_int (fun _ _ => rfl))))))))
      (pss_one (ps_ret (pv 3))))), ?_⟩
    obtain ⟨pq, xs, rfl, hpq, hA⟩ := dp_tup hR
    obtain ⟨pB, ys, rfl, hpB, hB⟩ := dp_tup hb
    have yl := dpA_len hB
    rw [List.length_map] at yl
    refine ⟨Nat.zero_le _, fun L hL => ?_⟩
    have s1 := same_new (o := .lst []) hL
    have hL1 := upd_same (H := H) (a := L) (o := .lst [])
    generalize upd H L (.lst []) = H1 at s1 hL1
    refine ⟨_, rfl, pB, rfl, ⟨_, same_t s1 hpB⟩, for_tup (K := K) (a := pB) (xs := ys) (fun i σ H' => ∃ (y4 y5 : Option V) (zs : List V) (l : List Br), σ = [some (.ref pq), some (.int (stA s0 l : Nat)), some (.ref pB), some (.ref L), y4, y5, none] ∧ Same H H' ∧ H' L = some (.lst zs) ∧ DpAll K H' zs (l.map dBr) ∧ AlI C s0 ws i l) ⟨_, _, [], [], rfl, s1, hL1, .nil, AlI.zero hs⟩ (fun i σ H' _ ⟨_, _, _, _, _, s, _⟩ => same_t s hpB) ?_ ?_⟩
    · rintro i y σ H2 hi ⟨y4, y5, zs, l, rfl, s2, hL2, hzs, ai⟩
      obtain ⟨wd, hwd, hy⟩ := dpA_mem hB hi
      have il := (List.getElem?_eq_some_iff.mp hwd).1
      have hst := ai.st
      obtain ⟨xr, hxr, hdr⟩ := dpA_get hA (rowOf_at hst)
      have okr := ok.row _ (List.mem_of_getElem? (rowOf_at hst))
      generalize htt : stA s0 l = t at hxr hdr okr hst
      obtain ⟨pr, rs, rfl, hpr, hrs⟩ := dp_tup hdr
      have rl := dpA_len hrs
      rw [List.length_map] at rl
      have few := okr.1
      have zl := dpA_len hzs
      rw [List.length_map, ai.len] at zl
      refine ⟨_, rfl, _, rfl, pq, _, _, _, rfl, rfl, same_t s2 hpq, atI_nat hxr, pr, rfl, ⟨_, same_t s2 hpr⟩, fun M hM => lc_tup (K := K) (a := pr) (xs := rs) (fun k H' => Same H2 H' ∧ ∃ us : List V, H' M = some (.lst us) ∧ DpAll K H' us ((((rowOf C t).take k).filter fun x => decide (x.1 = wd)).map dBr)) ⟨same_new hM, [], upd_same, .nil⟩ (fun k H' _ e => same_t (s2.trans e.1) hpr) ?_ ?_⟩
      · rintro k x H3 hk ⟨s3, us, hM3, hus⟩
        obtain ⟨bx, hbx, hx⟩ := dpA_mem (dpA_same (s2.trans s3) _ _ hrs) hk
        have hx' := hx
        obtain ⟨px, x0, x1, rfl, hpx, hd0, hd1⟩ := br_at hx
        have ul := dpA_len hus
        rw [List.length_map] at ul
        have fl := List.length_filter_le (fun x : Br => decide (x.1 = wd)) ((rowOf C t).take k)
        rw [List.length_take] at fl
        refine ⟨rfl, _, rfl, px, _, _, _, rfl, rfl, hpx, atI_nat (j := 0) rfl, _, rfl, dI bx.1, dI wd, hd0, dp_same (s2.trans s3) _ _ hy, dI_sh _, dI_sh _, _, rfl, ?_⟩
        rw [eqv_I]
        have ft : ((rowOf C t).take (k + 1)).filter (fun x => decide (x.1 = wd)) = ((rowOf C t).take k).filter (fun x => decide (x.1 = wd)) ++ [bx].filter (fun x => decide (x.1 = wd)) := by
          rw [take_snoc hbx, List.filter_append]
        cases hdec : decide (bx.1 = wd) with
        | true =>
          refine ⟨_, rfl, us, hM3, line6 (by omega), same_mut s3 hM, us ++ [.ref px], upd_same, ?_⟩
          have kM := keepT_nt (o := .lst (us ++ [.ref px])) (nt_lst _) hM3
          rw [ft, List.filter_cons_of_pos (p := fun x : Br => decide (x.1 = wd)) hdec, List.filter_nil, List.map_append]
          exact dpA_snoc (dpA_keep kM _ _ (noLs_br _) hus) (dp_keep kM _ _ (dBr_noL _) hx')
        | false =>
          refine ⟨s3, us, hM3, ?_⟩
          rw [ft, List.filter_cons_of_neg (p := fun x : Br => decide (x.1 = wd)) (by simp [hdec]), List.filter_nil, List.append_nil]
          exact hus
      · rintro H3 ⟨s3, us, hM3, hus⟩
        rw [rl, List.take_length] at hus
        cases hnx : nxtB (rowOf C t) wd with
        | none =>
          have f0 : (rowOf C t).filter (fun x => decide (x.1 = wd)) = [] := by
            have h := hnx
            unfold nxtB at h
            rw [List.getElem?_eq_none_iff] at h
            exact List.length_eq_zero_iff.mp (by omega)
          rw [f0] at hus
          cases dpA_nil hus
          refine ⟨_, rfl, false, .inl ⟨_, SqL.of hM3, rfl⟩, ?_⟩
          refine ite2 (fun _ => ?_) (fun h => absurd rfl h)
          refine q _ _ (s2.trans s3) ?_
          rw [ai.none hwd (by rw [htt]; exact hnx)]
          rfl
        | some br =>
          obtain ⟨xh, hxh, hx0⟩ := dpA_get hus hnx
          have une : us.isEmpty = false := by
            cases us with
            | nil => cases hxh
            | cons _ _ => rfl
          have hx' := hx0
          obtain ⟨px, z0, z1, rfl, hpx, hd0, hd1⟩ := br_at hx0
          have hL3 := s3 _ _ hL2
          have kL := keepT_nt (o := .lst (zs ++ [.ref px])) (nt_lst _) hL3
          have LM : M ≠ L := (ne_of_none hL2 hM).symm
          refine ⟨_, rfl, !us.isEmpty, .inl ⟨_, SqL.of hM3, rfl⟩, ?_⟩
          rw [une]
          refine iteNT ?_
          refine ⟨_, rfl, .inl ⟨rfl, _, SqL.of hL3⟩, _, rfl, M, _, _, _, rfl, rfl, SqL.of hM3, atI_nat (j := 0) hxh, L, zs, _, rfl, rfl, hL3, line6 (by omega), ?_⟩
          have hM4 : (upd H3 L (.lst (zs ++ [.ref px]))) M = some (.lst us) := by
            rw [upd_ne LM]
            exact hM3
          refine ⟨_, rfl, M, _, _, _, rfl, rfl, SqL.of hM4, atI_nat (j := 0) hxh, px, _, _, _, rfl, rfl, sqt_keep kL hpx, atI_nat (j := 2) rfl, ?_⟩
          have ai2 := ai.more ok hwd (by rw [htt]; exact hnx)
          refine ⟨_, _, zs ++ [.ref px], l ++ [br], by rw [stA_snoc]; rfl, same_mut (s2.trans s3) hL, upd_same, ?_, ai2⟩
          rw [List.map_append]
          exact dpA_snoc (dpA_keep kL _ _ (noLs_br _) (dpA_same s3 _ _ hzs)) (dp_keep kL _ _ (dBr_noL _) hx')
    · rintro σ H2 ⟨y4, y5, zs, l, rfl, s2, hL2, hzs, ai⟩
      rw [yl] at ai
      refine ⟨_, rfl, q _ _ s2 ?_⟩
      rw [ai.fin]
      exact .lst (SqL.of hL2) hzs
end
end Mt
namespace Mt
open PySem PySem.Spec PyProof.Rows L2
theorem z1 : (1 : Nat) ≤ sizeLine := by decide
theorem z2 : (2 : Nat) ≤ sizeLine := by decide
theorem z3 : (3 : Nat) ≤ sizeLine := by decide
theorem z4 : (4 : Nat) ≤ sizeLine := by decide
section
variable {P : Program} {w : World} {K : PySem.W.Frag} {mg : Str → Option Value} {base : Heap}
theorem ok__law_along (T : Txt K mg) (D__law_worth : Kept P w K mg base 1 "_law_worth" ["worths", "shown"] (spLWorth K)) {f : Addr} {fd : FuncData} (F : FnP K "_law_along" s__law_along f fd) : FnOk P w K mg base CX0 2 f fd ["chain", "worths", "start", "blocks"] (spLAlong K) := by
  refine F.ok sc__law_along (fun vs H Q E h => ?_) (fun cdv A outer s H vs Q E hr h => ?_)
  · obtain ⟨vc, vw, vb, s, b, C, W, ws, rfl, _⟩ := h
    rfl
  · obtain ⟨vc, vw, vb, s0, b, C, W, ws, rfl, hC, ok, hs, hw, nd, hwl, hl, hb, q⟩ := h
    refine ⟨_, PSs.nox (pss_cons (ps_set (i := 4) sc__law_along.nd rfl (Or.inl rfl) (pv 2))
      (pss_cons (ps_set (i := 5) sc__law_along.nd rfl (Or.inl rfl) pe_int)
      (pss_cons (ps_for PassesOwn.never rfl (pi_tup (pv 3)) (pg_name (i := 6) sc__law_along.nd rfl (Or.inr rfl)) (pss_cons (ps_setLc (i := 7) (own := [("branch", 8)]) (g := (gName 8)) rfl sc__law_along.nd rfl rfl (sw_true rfl rfl rfl (by decide +kernel)) (pi_tup (pe_ix ix_tup (pe_ix ix_tup (pv 0) pe_int (fun _ _ => rfl)) (pv 4) (fun _ _ => rfl))) (blkOk_by (N := N__law_along) (sc := defScope s__law_along) (by decide +kernel)) (fun _ _ _ _ _ => (pg_name (i := 8) sc__law_along.nd rfl (Or.inl rfl))) (fun _ _ _ _ _ => (pts_one (pt_cmpR (eqDK (K := K) rfl (hr.units)) (pe_ix (ixT (K := K) rfl) (pv 8) pe_int (fun _ _ => rfl)) (pv 6) (nomark _)))) (fun _ _ _ _ _ => (pv 8)))
      (pss_cons (ps_if (pt_cmpR op_eq (pe_callB call_len (by rfl) T.b_len (by decide +kernel) (pa_cons (pv 7) pa_nil)) pe_int (nomark _)) (pss_one (ps_ret pe_non)) pss_nil)
      (pss_cons (ps_aug (i := 5) sc__law_along.nd rfl (Or.inl rfl) (pe_d D__law_worth (hr.mono (by decide)) (by rfl) (pa_cons (pv 1) (pa_cons (pe_ix ix_tup (pe_ix ix_list (pv 7) pe_int (fun _ _ => rfl)) pe_int (fun _ _ => rfl)) pa_nil))) ip_add)
      (pss_one (ps_set (i := 4) sc__law_along.nd rfl (Or.inl rfl) (pe_ix ix_tup (pe_ix ix_list (pv 7) pe_int (fun _ _ => rfl)) pe_int (fun _ _ => rfl))))))))
      (pss_one (ps_ret (pe_tup (pa_cons (pv 4) (pa_cons (pv 5) pa_nil)))))))), ?_⟩
    obtain ⟨pc, pq, xs, rfl, hpc, hpq, hA⟩ := chn_at hC
    obtain ⟨pB, ys, rfl, hpB, hB⟩ := dp_tup hb
    have yl := dpA_len hB
    rw [List.length_map] at yl
    refine ⟨_, rfl, _, rfl, pB, rfl, ⟨_, hpB⟩, for_tup (K := K) (a := pB) (xs := ys) (fun i σ H' => ∃ (y6 y7 : Option V) (l : List Br), σ = [some (.ref pc), some vw, some (.int (s0 : Int)), some (.ref pB), some (.int (stA s0 l : Nat)), some (.int (wsum W l)), y6, y7, none] ∧ Same H H' ∧ AlI C s0 ws i l) ⟨_, _, [], rfl, Same.refl _, AlI.zero hs⟩ (fun i σ H' _ ⟨_, _, _, _, s, _⟩ => same_t s hpB) ?_ ?_⟩
    · rintro i y σ H2 hi ⟨y6, y7, l, rfl, s2, ai⟩
      obtain ⟨wd, hwd, hy⟩ := dpA_mem hB hi
      have il := (List.getElem?_eq_some_iff.mp hwd).1
      have hst := ai.st
      obtain ⟨xr, hxr, hdr⟩ := dpA_get hA (rowOf_at hst)
      have okr := ok.row _ (List.mem_of_getElem? (rowOf_at hst))
      generalize htt : stA s0 l = t at hxr hdr okr hst
      obtain ⟨pr, rs, rfl, hpr, hrs⟩ := dp_tup hdr
      have rl := dpA_len hrs
      rw [List.length_map] at rl
      have few := okr.1
      refine ⟨_, rfl, pc, _, _, _, rfl, rfl, same_t s2 hpc, atI_nat (j := 2) rfl, _, rfl, pq, _, _, _, rfl, rfl, same_t s2 hpq, atI_nat hxr, pr, rfl, ⟨_, same_t s2 hpr⟩, fun M hM => lc_tup (K := K) (a := pr) (xs := rs) (fun k H' => Same H2 H' ∧ ∃ us : List V, H' M = some (.lst us) ∧ DpAll K H' us ((((rowOf C t).take k).filter fun x => decide (x.1 = wd)).map dBr)) ⟨same_new hM, [], upd_same, .nil⟩ (fun k H' _ e => same_t (s2.trans e.1) hpr) ?_ ?_⟩
      · rintro k x H3 hk ⟨s3, us, hM3, hus⟩
        obtain ⟨bx, hbx, hx⟩ := dpA_mem (dpA_same (s2.trans s3) _ _ hrs) hk
        have hx' := hx
        obtain ⟨px, x0, x1, rfl, hpx, hd0, hd1⟩ := br_at hx
        have ul := dpA_len hus
        rw [List.length_map] at ul
        have fl := List.length_filter_le (fun x : Br => decide (x.1 = wd)) ((rowOf C t).take k)
        rw [List.length_take] at fl
        refine ⟨rfl, _, rfl, px, _, _, _, rfl, rfl, hpx, atI_nat (j := 0) rfl, _, rfl, dI bx.1, dI wd, hd0, dp_same (s2.trans s3) _ _ hy, dI_sh _, dI_sh _, _, rfl, ?_⟩
        rw [eqv_I]
        have ft : ((rowOf C t).take (k + 1)).filter (fun x => decide (x.1 = wd)) = ((rowOf C t).take k).filter (fun x => decide (x.1 = wd)) ++ [bx].filter (fun x => decide (x.1 = wd)) := by
          rw [take_snoc hbx, List.filter_append]
        cases hdec : decide (bx.1 = wd) with
        | true =>
          refine ⟨_, rfl, us, hM3, line6 (by omega), same_mut s3 hM, us ++ [.ref px], upd_same, ?_⟩
          have kM := keepT_nt (o := .lst (us ++ [.ref px])) (nt_lst _) hM3
          rw [ft, List.filter_cons_of_pos (p := fun x : Br => decide (x.1 = wd)) hdec, List.filter_nil, List.map_append]
          exact dpA_snoc (dpA_keep kM _ _ (noLs_br _) hus) (dp_keep kM _ _ (dBr_noL _) hx')
        | false =>
          refine ⟨s3, us, hM3, ?_⟩
          rw [ft, List.filter_cons_of_neg (p := fun x : Br => decide (x.1 = wd)) (by simp [hdec]), List.filter_nil, List.append_nil]
          exact hus
      · rintro H3 ⟨s3, us, hM3, hus⟩
        rw [rl, List.take_length] at hus
        cases hnx : nxtB (rowOf C t) wd with
        | none =>
          have f0 : (rowOf C t).filter (fun x => decide (x.1 = wd)) = [] := by
            have h := hnx
            unfold nxtB at h
            rw [List.getElem?_eq_none_iff] at h
            exact List.length_eq_zero_iff.mp (by omega)
          rw [f0] at hus
          cases dpA_nil hus
          refine ⟨_, rfl, _, _, rfl, .inl ⟨_, SqL.of hM3, rfl⟩, rfl, _, rfl, ite2 (fun _ => ?_) (fun h => absurd rfl h)⟩
          refine q _ _ (s2.trans s3) ?_
          rw [ai.none hwd (by rw [htt]; exact hnx)]
          rfl
        | some br =>
          obtain ⟨xh, hxh, hx0⟩ := dpA_get hus hnx
          have ul : 0 < us.length := (List.getElem?_eq_some_iff.mp hxh).1
          obtain ⟨px, z0, z1, rfl, hpx, hd0, hd1⟩ := br_at hx0
          have hb6 := (okr.2 br (nxt_mem hnx)).2
          refine ⟨_, rfl, _, _, rfl, .inl ⟨_, SqL.of hM3, rfl⟩, rfl, _, rfl, ite2 (fun h => absurd (of_decide_eq_true h) (fun z => ?_)) (fun _ => ?_)⟩
          · have := V.int.inj z
            omega
          refine ⟨_, rfl, _, rfl, _, rfl, M, _, _, _, rfl, rfl, SqL.of hM3, atI_nat (j := 0) hxh, px, _, _, _, rfl, rfl, hpx, atI_nat (j := 1) rfl, vw, z1, W, br.2.1, rfl, hw.keep (KeepT.of_same (s2.trans s3)), nd, hwl, hd1, by omega, fun H4 s4 => ⟨_, _, rfl, rfl, ?_⟩⟩
          refine ⟨_, rfl, M, _, _, _, rfl, rfl, SqL.of (s4 _ _ hM3), atI_nat (j := 0) hxh, px, _, _, _, rfl, rfl, same_t s4 hpx, atI_nat (j := 2) rfl, ?_⟩
          have ai2 := ai.more ok hwd (by rw [htt]; exact hnx)
          have ew : wsum W (l ++ [br]) = wsum W l + wv W br.2.1 := by
            unfold wsum
            rw [List.map_append, List.sum_append]
            simp
          exact ⟨_, _, l ++ [br], by rw [stA_snoc, ew]; rfl, s2.trans (s3.trans s4), ai2⟩
    · rintro σ H2 ⟨y6, y7, l, rfl, s2, ai⟩
      rw [yl] at ai
      refine ⟨_, rfl, _, rfl, z2, fun p hp => q _ _ (s2.trans (same_new hp)) ?_⟩
      rw [ai.fin]
      exact .tup (SqT.of upd_same) (.cons (.int _) (.cons (.int _) .nil))
end
end Mt
namespace Mt
open PySem PySem.Spec PyProof.Rows L2
theorem atI_m1 {xs : List V} {x : V} (h : xs.getLast? = some x) : atI xs (-1) = some x := by
  cases xs with
  | nil => cases h
  | cons a r =>
    unfold atI ixN
    rw [if_neg (by decide), if_pos (by rw [List.length_cons]; omega)]
    show (a :: r)[(-1 + ((a :: r).length : Int)).toNat]? = some x
    rw [show (-1 + ((a :: r).length : Int)).toNat = (a :: r).length - 1 by rw [List.length_cons]; omega, ← List.getLast?_eq_getElem?]
    exact h
theorem asg_to {te : TE} {g : L2.TG} {R : TS} {D : Ends} {σ : L2.St} {H : Hp} {v : V} (h : ∀ Q' : VK, Q' v H → te σ H Q') (q : g v σ H fun σ' H' => R D σ' H') : tSeq (tAsg te g) R D σ H := h _ q
theorem nx_to {T b c : L2.St → Hp → Prop} {r : VK} {σ : L2.St} {H : Hp} (h : T σ H) : tNext ⟨T, r, b, c⟩ σ H := h
theorem last_at {K : PySem.W.Frag} {H : Hp} {l : List Br} {xs : List V} {b : Br} (h : DpAll K H xs (l.map dBr)) (hb : l.getLast? = some b) : ∃ p x0 x1, xs.getLast? = some (.ref p) ∧ SqT K H p [x0, x1, .int (b.2.2 : Int)] := by
  have hl := dpA_len h
  rw [List.length_map] at hl
  rw [List.getLast?_eq_getElem?] at hb
  obtain ⟨x, hx, hd⟩ := dpA_get h hb
  obtain ⟨p, x0, x1, rfl, hp, _, _⟩ := br_at hd
  refine ⟨p, x0, x1, ?_, hp⟩
  rw [List.getLast?_eq_getElem?, hl]
  exact hx
def ringB (C : Chn) (way ring : List (List Int)) : Option (List Br × List Br) := match alongB C 0 way with
  | none => none
  | some l => if ring = [] then none else match alongB C (stA 0 l) ring with
    | none => none
    | some m => if stA (stA 0 l) m = stA 0 l then some (l, m) else none
def RAOk (K : PySem.W.Frag) (H : Hp) (x : V) : Option (List Br × List Br) → Prop
  | none => x = .non
  | some (l, m) => Dp K H x (.tuple [.list (l.map dBr), .list (m.map dBr)])
theorem along_ok {C : Chn} (ok : ChS C) : ∀ {ws : List (List Int)} {s : Nat} {l : List Br}, s < C.length → alongB C s ws = some l → stA s l < C.length ∧ l.length = ws.length ∧ ∀ b ∈ l, b.2.1.length ≤ 6
  | [], s, l, hs, e => by
    cases e
    exact ⟨hs, rfl, fun _ h => absurd h List.not_mem_nil⟩
  | w :: ws, s, l, hs, e => by
    cases hn : nxtB (rowOf C s) w with
    | none =>
      rw [along_none hn] at e
      cases e
    | some b =>
      rw [along_some hn] at e
      obtain ⟨l', e', rfl⟩ := Option.map_eq_some_iff.mp e
      have hb := (ok.row _ (List.mem_of_getElem? (rowOf_at hs))).2 b (nxt_mem hn)
      obtain ⟨h1, h2, h3⟩ := along_ok ok hb.1 e'
      refine ⟨?_, by rw [List.length_cons, h2]; rfl, fun x hx => ?_⟩
      · cases hl : l'.getLast? with
        | none =>
          rw [List.getLast?_eq_none_iff.mp hl]
          exact hb.1
        | some y =>
          unfold stA at h1 ⊢
          rw [List.getLast?_cons, hl]
          rw [hl] at h1
          exact h1
      · rcases List.mem_cons.mp hx with h | h
        · rw [h]
          exact hb.2
        · exact h3 x h
def spRAlongG (K : PySem.W.Frag) : Sp := fun vs H Q _ => ∃ (vr vw vg : V) (C : Chn) (way ring : List (List Int)), vs = [vr, vw, vg] ∧ Dp K H vr (.tuple (C.map dRw)) ∧ ChS C ∧ 0 < C.length ∧ way.length ≤ 1000 ∧ ring.length ≤ 1000 ∧ Dp K H vw (dWs way) ∧ Dp K H vg (dWs ring) ∧
  ∀ H' x, Same H H' → RAOk K H' x (ringB C way ring) → Q x H'
section
variable {P : Program} {w : World} {K : PySem.W.Frag} {mg : Str → Option Value} {base : Heap}
theorem ok_ring_along (T : Txt K mg) (D_branches_along : Kept P w K mg base 1 "branches_along" ["rows", "state", "blocks"] (spAlongG K)) {f : Addr} {fd : FuncData} (F : FnP K "ring_along" s_ring_along f fd) : FnOk P w K mg base CX0 2 f fd ["rows", "way", "ring"] (spRAlongG K) := by
  refine F.ok sc_ring_along (fun vs H Q E h => ?_) (fun cdv A outer s H vs Q E hr h => ?_)
  · obtain ⟨vr, vw, vg, C, way, ring, rfl, _⟩ := h
    rfl
  · obtain ⟨vr, vw, vg, C, way, ring, rfl, hR, ok, c0, l1, l2, hw, hg, q⟩ := h
    refine ⟨_, PSs.nox (pss_cons (ps_set (i := 3) sc_ring_along.nd rfl (Or.inl rfl) (pe_d D_branches_along (hr.mono (by decide)) (by rfl) (pa_cons (pv 0) (pa_cons pe_int (pa_cons (pv 1) pa_nil)))))
      (pss_cons (ps_if (PW.pt (pw_or (pt_cmpR op_isN (pv 3) pe_non (nomark _)) (pw_or1 (pt_not (pt_truth (pv 2) (by intro _; rfl)))))) (pss_one (ps_ret pe_non)) pss_nil)
      (pss_cons (ps_set (i := 4) sc_ring_along.nd rfl (Or.inl rfl) (pe_ifExp (pt_truth (pv 3) (by intro _; rfl)) (pe_ix ix_tup (pe_ix ix_list (pv 3) (pe_un un_neg pe_int) (fun _ _ => rfl)) pe_int (fun _ _ => rfl)) pe_int))
      (pss_cons (ps_set (i := 5) sc_ring_along.nd rfl (Or.inl rfl) (pe_d D_branches_along (hr.mono (by decide)) (by rfl) (pa_cons (pv 0) (pa_cons (pv 4) (pa_cons (pv 2) pa_nil)))))
      (pss_cons (ps_if (PW.pt (pw_or (pt_cmpR op_isN (pv 5) pe_non (nomark _)) (pw_or1 (pt_cmpR op_ne (pe_ix ix_tup (pe_ix ix_list (pv 5) (pe_un un_neg pe_int) (fun _ _ => rfl)) pe_int (fun _ _ => rfl)) (pv 4) (nomark _))))) (pss_one (ps_ret pe_non)) pss_nil)
      (pss_one (ps_ret (pe_tup (pa_cons (pv 3) (pa_cons (pv 5) pa_nil)))))))))), ?_⟩
    refine ⟨_, rfl, _, rfl, vr, vw, 0, C, way, rfl, hR, ok, c0, l1, hw, fun H1 v s1 hv => ?_⟩
    obtain ⟨pg, gs, rfl, hpg, hgs⟩ := dp_tup hg
    have gl := dpA_len hgs
    rw [List.length_map] at gl
    cases hal : alongB C 0 way with
    | none =>
      rw [hal] at hv
      obtain rfl : v = .non := hv
      refine ⟨_, rfl, rfl, _, rfl, ite2 (fun _ => ite2 (fun _ => ?_) (fun h => absurd rfl h)) (fun h => absurd rfl h)⟩
      refine q _ _ s1 ?_
      unfold ringB
      rw [hal]
      rfl
    | some l =>
      rw [hal] at hv
      have hv : Dp K H1 v (.list (l.map dBr)) := hv
      obtain ⟨st1, ll1, _⟩ := along_ok ok c0 hal
      obtain ⟨L1, zs, rfl, hL1, hzs⟩ := dp_lst hv
      have zl := dpA_len hzs
      rw [List.length_map] at zl
      refine ⟨_, rfl, rfl, _, rfl, ite2 (fun h => (nomatch (show false = true from h))) (fun _ => ⟨_, rfl, !gs.isEmpty, .inr (.inl ⟨gs, same_t s1 hpg, rfl⟩), ?_⟩)⟩
      by_cases hr0 : ring = []
      · subst hr0
        obtain rfl : gs = [] := List.length_eq_zero_iff.mp gl
        refine ite2 (fun _ => ?_) (fun h => absurd rfl h)
        refine q _ _ s1 ?_
        unfold ringB
        rw [hal]
        rfl
      · have gne : gs.isEmpty = false := by
          cases gs with
          | nil => exact absurd (List.length_eq_zero_iff.mp gl.symm) hr0
          | cons _ _ => rfl
        rw [gne]
        refine iteNT ?_
        refine nx_to ?_
        refine asg_to (v := .int ((stA 0 l : Nat) : Int)) (fun Q' hq => ?_) ?_
        · cases hll : l.getLast? with
          | none =>
            have l0 : l = [] := List.getLast?_eq_none_iff.mp hll
            subst l0
            obtain rfl : zs = [] := List.length_eq_zero_iff.mp zl
            exact ⟨_, rfl, false, .inl ⟨_, hL1, rfl⟩, hq⟩
          | some lb0 =>
            obtain ⟨p', y0, y1, hlast', hp'⟩ := last_at hzs hll
            have e0 : lb0.2.2 = stA 0 l := by
              unfold stA
              rw [hll]
            rw [e0] at hp'
            refine ⟨_, rfl, true, .inl ⟨_, hL1, ?_⟩, ?_⟩
            · cases zs with
              | nil => cases hlast'
              | cons _ _ => rfl
            · exact ⟨_, rfl, _, rfl, L1, zs, _, _, rfl, rfl, hL1, atI_m1 hlast', p', _, _, _, rfl, rfl, hp', atI_nat (j := 2) rfl, hq⟩
        · refine ⟨_, rfl, _, rfl, _, rfl, vr, .ref pg, stA 0 l, C, ring, rfl, dp_same s1 _ _ hR, ok, st1, l2, dp_same s1 _ _ hg, fun H2 v2 s2 hv2 => ?_⟩
          cases har : alongB C (stA 0 l) ring with
          | none =>
            rw [har] at hv2
            obtain rfl : v2 = .non := hv2
            refine ⟨_, rfl, rfl, _, rfl, ite2 (fun _ => ite2 (fun _ => ?_) (fun h => absurd rfl h)) (fun h => absurd rfl h)⟩
            refine q _ _ (s1.trans s2) ?_
            unfold ringB
            rw [hal]
            show RAOk K H2 .non (if ring = [] then none else match alongB C (stA 0 l) ring with | none => none | some m => if stA (stA 0 l) m = stA 0 l then some (l, m) else none)
            rw [if_neg hr0, har]
            rfl
          | some m =>
            rw [har] at hv2
            have hv2 : Dp K H2 v2 (.list (m.map dBr)) := hv2
            obtain ⟨st2, ml, _⟩ := along_ok ok st1 har
            obtain ⟨L2', us, rfl, hL2, hus⟩ := dp_lst hv2
            have rp : 0 < ring.length := List.length_pos_iff.mpr hr0
            obtain ⟨lb, hlb⟩ : ∃ lb, m.getLast? = some lb := by
              cases e : m.getLast? with
              | none =>
                rw [List.getLast?_eq_none_iff.mp e] at ml
                have : (0 : Nat) = ring.length := ml
                omega
              | some lb => exact ⟨lb, rfl⟩
            obtain ⟨p, z0, z1', hlast, hp⟩ := last_at hus hlb
            have elb : stA (stA 0 l) m = lb.2.2 := by
              conv => lhs; unfold stA
              rw [hlb]
            have er : ringB C way ring = if stA (stA 0 l) m = stA 0 l then some (l, m) else none := by
              unfold ringB
              rw [hal]
              show (if ring = [] then none else match alongB C (stA 0 l) ring with | none => none | some m => if stA (stA 0 l) m = stA 0 l then some (l, m) else none) = _
              rw [if_neg hr0, har]
            rw [er, elb] at q
            refine ⟨_, rfl, rfl, _, rfl, ite2 (fun h => (nomatch (show false = true from h))) (fun _ => ?_)⟩
            refine ⟨_, rfl, _, rfl, L2', us, _, _, rfl, rfl, hL2, atI_m1 hlast, p, _, _, _, rfl, rfl, hp, atI_nat (j := 2) rfl, _, rfl, rfl, _, rfl, ite2 (fun h => ?_) (fun h => ?_)⟩
            · have ne : lb.2.2 ≠ stA 0 l := fun z => by
                rw [z] at h
                simp at h
              rw [if_neg ne] at q
              exact q _ _ (s1.trans s2) rfl
            · have e : lb.2.2 = stA 0 l := Classical.byContradiction fun z => h (by
                have : V.int ((lb.2.2 : Nat) : Int) ≠ V.int ((stA 0 l : Nat) : Int) := fun z' => z (by have := V.int.inj z'; omega)
                simp [this])
              rw [if_pos e] at q
              refine ⟨_, rfl, _, rfl, z2, fun p9 hp9 => ?_⟩
              have s9 := same_new (o := .tup [.ref L1, .ref L2']) hp9
              exact q _ _ (s1.trans (s2.trans s9)) (.tup (SqT.of upd_same) (.cons (dp_same (s2.trans s9) _ _ hv) (.cons (dp_same s9 _ _ hv2) .nil)))
end
end Mt
namespace Mt
open PySem PySem.Spec PyProof.Rows L2
/-- the inner loop of a comprehension with two for -/
theorem lc2_in {J : It} {n : Nat} {G : Hp → Prop} {Y : Nat → Hp → V → Hp → Prop} (w : Walk J n G Y) {g : TG} {tt : TT} {te : TE} {vs : List Nat} {σ : L2.St} {H1 : Hp} {D : Addr} {Nx : Hp → Prop} (Pv : Nat → Hp → Prop) (h0 : Pv 0 H1) (hG : ∀ i H, i ≤ n → Pv i H → G H)
    (hs : ∀ i x H H', i < n → Pv i H → Y i H x H' → g x (wipe σ vs) H' fun σ2 H2 => wipe σ2 vs = wipe σ vs ∧ tt σ2 H2 fun b H3 =>
      if b = true then te σ2 H3 fun y H4 => ∃ acc, H4 D = some (.lst acc) ∧ acc.length < sizeLine ∧ Pv (i + 1) (upd H4 D (.lst (acc ++ [y]))) else Pv (i + 1) H3) (hd : ∀ H, Pv n H → Nx H) :
    ∃ W : Nat → Nat → Hp → Prop, (∃ m, W 0 m H1) ∧ ∀ i m H, W i m H →
      (J.stop i H ∧ Nx H) ∨ (J.go i H ∧ ∃ Nx : Hp → Prop, (∀ H', Nx H' → ∃ m', m' < m ∧ W (i + 1) m' H') ∧ ∀ x H', J.yld i H x H' → g x (wipe σ vs) H' fun σ2 H2 => wipe σ2 vs = wipe σ vs ∧ tt σ2 H2 fun b H3 =>
        if b = true then te σ2 H3 fun y H4 => ∃ acc, H4 D = some (.lst acc) ∧ acc.length < sizeLine ∧ Nx (upd H4 D (.lst (acc ++ [y]))) else Nx H3) := by
  refine ⟨fun i m H => m = n - i ∧ i ≤ n ∧ Pv i H, ⟨n, by simp, Nat.zero_le _, h0⟩, ?_⟩
  rintro i m H ⟨rfl, hi, p⟩
  have q := hG i H hi p
  by_cases hlt : i < n
  · refine .inr ⟨w.goes i H hlt q, Pv (i + 1), fun H' p' => ⟨n - (i + 1), by omega, rfl, hlt, p'⟩, fun x H' y => hs i x H H' hlt p (w.yields i H x H' hlt q y)⟩
  · have e : i = n := by omega
    subst e
    exact .inl ⟨w.stops H q, hd H p⟩
/-- the outer one -/
theorem lc2_out {J : It} {n : Nat} {G : Hp → Prop} {Y : Nat → Hp → V → Hp → Prop} (w : Walk J n G Y) {g : TG} {tt : TT} {wi1 : TI} {g1 : TG} {tt1 : TT} {te : TE} {vs vs1 : List Nat} {σ : L2.St} {H1 : Hp} {D : Addr} {Qd : Hp → Prop} (Pv : Nat → Hp → Prop) (h0 : Pv 0 (upd H1 D (.lst []))) (hG : ∀ i H, i ≤ n → Pv i H → G H)
    (hs : ∀ i x H H', i < n → Pv i H → Y i H x H' → g x (wipe σ vs) H' fun σ2 H2 => wipe σ2 vs = wipe σ vs ∧ tt σ2 H2 fun b H3 =>
      if b = true then wi1 σ2 H3 fun J1 H4 => ∃ W1 : Nat → Nat → Hp → Prop, (∃ m, W1 0 m H4) ∧ ∀ j k H, W1 j k H →
        (J1.stop j H ∧ Pv (i + 1) H) ∨ (J1.go j H ∧ ∃ Nx1 : Hp → Prop, (∀ H', Nx1 H' → ∃ k', k' < k ∧ W1 (j + 1) k' H') ∧ ∀ x H', J1.yld j H x H' → g1 x (wipe σ2 vs1) H' fun σ3 H5 => wipe σ3 vs1 = wipe σ2 vs1 ∧ tt1 σ3 H5 fun b H6 =>
          if b = true then te σ3 H6 fun y H7 => ∃ acc, H7 D = some (.lst acc) ∧ acc.length < sizeLine ∧ Nx1 (upd H7 D (.lst (acc ++ [y]))) else Nx1 H6)
      else Pv (i + 1) H3) (hd : ∀ H, Pv n H → Qd H) :
    ∃ W : Nat → Nat → Hp → Prop, (∃ m, W 0 m (upd H1 D (.lst []))) ∧ ∀ i m H, W i m H →
      (J.stop i H ∧ Qd H) ∨ (J.go i H ∧ ∃ Nx : Hp → Prop, (∀ H', Nx H' → ∃ m', m' < m ∧ W (i + 1) m' H') ∧ ∀ x H', J.yld i H x H' → g x (wipe σ vs) H' fun σ2 H2 => wipe σ2 vs = wipe σ vs ∧ tt σ2 H2 fun b H3 =>
        if b = true then wi1 σ2 H3 fun J1 H4 => ∃ W1 : Nat → Nat → Hp → Prop, (∃ m, W1 0 m H4) ∧ ∀ j k H, W1 j k H →
          (J1.stop j H ∧ Nx H) ∨ (J1.go j H ∧ ∃ Nx1 : Hp → Prop, (∀ H', Nx1 H' → ∃ k', k' < k ∧ W1 (j + 1) k' H') ∧ ∀ x H', J1.yld j H x H' → g1 x (wipe σ2 vs1) H' fun σ3 H5 => wipe σ3 vs1 = wipe σ2 vs1 ∧ tt1 σ3 H5 fun b H6 =>
            if b = true then te σ3 H6 fun y H7 => ∃ acc, H7 D = some (.lst acc) ∧ acc.length < sizeLine ∧ Nx1 (upd H7 D (.lst (acc ++ [y]))) else Nx1 H6)
        else Nx H3) := by
  refine ⟨fun i m H => m = n - i ∧ i ≤ n ∧ Pv i H, ⟨n, by simp, Nat.zero_le _, h0⟩, ?_⟩
  rintro i m H ⟨rfl, hi, p⟩
  have q := hG i H hi p
  by_cases hlt : i < n
  · refine .inr ⟨w.goes i H hlt q, Pv (i + 1), fun H' p' => ⟨n - (i + 1), by omega, rfl, hlt, p'⟩, fun x H' y => hs i x H H' hlt p (w.yields i H x H' hlt q y)⟩
  · have e : i = n := by omega
    subst e
    exact .inl ⟨w.stops H q, hd H p⟩
theorem uniq_br {r : List Br} {b : Br} (h : (r.map (·.1)).Pairwise NP) (hb : b ∈ r) : r.filter (fun x => decide (x.1 = b.1)) = [b] := by
  induction r with
  | nil => exact absurd hb List.not_mem_nil
  | cons a t ih =>
    obtain ⟨h1, h2⟩ := List.pairwise_cons.mp h
    rcases List.mem_cons.mp hb with rfl | hb
    · rw [List.filter_cons_of_pos (by simp)]
      have : t.filter (fun x => decide (x.1 = b.1)) = [] := List.filter_eq_nil_iff.mpr fun x hx e => by
        have e := of_decide_eq_true e
        have := h1 x.1 (List.mem_map.mpr ⟨x, hx, rfl⟩)
        exact this.1 (by rw [e]; exact List.prefix_refl _)
      rw [this]
    · have : ¬ (decide (a.1 = b.1)) = true := fun e => by
        have e := of_decide_eq_true e
        have := h1 b.1 (List.mem_map.mpr ⟨b, hb, rfl⟩)
        exact this.1 (by show a.1 <+: b.1; rw [e]; exact List.prefix_refl _)
      rw [List.filter_cons_of_neg (p := fun x : Br => decide (x.1 = b.1)) this]
      exact ih h2 hb
def hasZ (z : Str) (l : List Br) : Bool := l.any fun b => decide (z ∈ b.2.1)
def jring (C : Chn) (z : Str) (way ring : List (List Int)) : Bool := match ringB C way ring with
  | none => false
  | some (l, m) => !hasZ z (l ++ m)
def quietC (C : Chn) (z : Str) : Chn := C.map (sl z)
theorem quiet_row {C : Chn} {z : Str} {s : Nat} : rowOf (quietC C z) s = sl z (rowOf C s) := by
  unfold rowOf quietC
  rw [List.getElem?_map]
  cases C[s]? <;> rfl
theorem nxt_quiet {r : List Br} {z : Str} {w : List Int} (h : (r.map (·.1)).Pairwise NP) : nxtB (sl z r) w = match nxtB r w with
    | none => none
    | some b => if decide (z ∈ b.2.1) = true then none else some b := by
  have e : (sl z r).filter (fun x => decide (x.1 = w)) = (r.filter fun x => decide (x.1 = w)).filter fun b => !decide (z ∈ b.2.1) := by
    unfold sl
    rw [List.filter_filter, List.filter_filter]
    refine List.filter_congr fun x _ => ?_
    rw [Bool.and_comm]
  cases hn : nxtB r w with
  | none =>
    have f0 : r.filter (fun x => decide (x.1 = w)) = [] := by
      unfold nxtB at hn
      rw [List.getElem?_eq_none_iff] at hn
      exact List.length_eq_zero_iff.mp (by omega)
    unfold nxtB
    rw [e, f0]
    rfl
  | some b =>
    have hm := List.mem_of_getElem? (show (r.filter fun x => decide (x.1 = w))[0]? = some b from hn)
    obtain ⟨h1, h2⟩ := List.mem_filter.mp hm
    have hw : b.1 = w := of_decide_eq_true h2
    have u := uniq_br h h1
    rw [hw] at u
    unfold nxtB
    rw [e, u, List.filter_cons, List.filter_nil]
    show _ = if decide (z ∈ b.2.1) = true then none else some b
    cases decide (z ∈ b.2.1) <;> rfl
theorem along_quiet {base : Int} {C : Chn} (ok : ChnOk base C) {z : Str} : ∀ {ws : List (List Int)} {s : Nat}, s < C.length → alongB (quietC C z) s ws = match alongB C s ws with
    | none => none
    | some l => if hasZ z l = true then none else some l
  | [], s, _ => rfl
  | w :: ws, s, hs => by
    have okr := ok.row _ (List.mem_of_getElem? (rowOf_at hs))
    have q := nxt_quiet (z := z) (w := w) okr.cm.pf
    rw [← quiet_row] at q
    cases hn : nxtB (rowOf C s) w with
    | none =>
      rw [hn] at q
      rw [along_none q, along_none hn]
    | some b =>
      rw [hn] at q
      have hb := (okr.to b (nxt_mem hn)).1
      have ih := along_quiet ok (z := z) (ws := ws) hb
      rw [along_some hn]
      have q : nxtB (rowOf (quietC C z) s) w = if decide (z ∈ b.2.1) = true then none else some b := q
      cases hz : decide (z ∈ b.2.1) with
      | true =>
        rw [hz, if_pos rfl] at q
        rw [along_none q]
        cases alongB C b.2.2 ws with
        | none => rfl
        | some l =>
          show none = if hasZ z (b :: l) = true then none else some (b :: l)
          unfold hasZ
          rw [List.any_cons, hz, Bool.true_or, if_pos rfl]
      | false =>
        rw [hz, if_neg (by decide)] at q
        rw [along_some q, ih]
        cases alongB C b.2.2 ws with
        | none => rfl
        | some l =>
          show Option.map (b :: ·) (if hasZ z l = true then none else some l) = if hasZ z (b :: l) = true then none else some (b :: l)
          have e : hasZ z (b :: l) = hasZ z l := by
            unfold hasZ
            rw [List.any_cons, hz, Bool.false_or]
          rw [e]
          cases hasZ z l <;> rfl
/-- the law's own judge of a ring -/
def lring (Q : Chn) (way ring : List (List Int)) : Bool := match alongB Q 0 way with
  | none => false
  | some l => if ring = [] then false else match alongB Q (stA 0 l) ring with
    | none => false
    | some m => decide (stA (stA 0 l) m = stA 0 l)
theorem hasZ_app (z : Str) (l m : List Br) : hasZ z (l ++ m) = (hasZ z l || hasZ z m) := List.any_append
theorem ring_eq {base : Int} {C : Chn} (ok : ChnOk base C) {z : Str} {way ring : List (List Int)} : lring (quietC C z) way ring = jring C z way ring := by
  unfold lring jring ringB
  rw [along_quiet ok ok.pos]
  cases hal : alongB C 0 way with
  | none => rfl
  | some l =>
    obtain ⟨st, _, _⟩ := along_ok ok.s ok.pos hal
    by_cases hr : ring = []
    · simp only [hr, if_true]
      cases hasZ z l <;> rfl
    · simp only [if_neg hr]
      have aq := along_quiet ok (z := z) (ws := ring) st
      cases har : alongB C (stA 0 l) ring with
      | none =>
        rw [har] at aq
        cases hz : hasZ z l with
        | true => simp
        | false => simp [aq]
      | some m =>
        rw [har] at aq
        have aq : alongB (quietC C z) (stA 0 l) ring = if hasZ z m = true then none else some m := aq
        cases hz : hasZ z l with
        | true =>
          by_cases c : stA (stA 0 l) m = stA 0 l
          · simp [c, hasZ_app, hz]
          · simp [c]
        | false =>
          cases hm : hasZ z m with
          | true =>
            rw [hm, if_pos rfl] at aq
            by_cases c : stA (stA 0 l) m = stA 0 l
            · simp [aq, c, hasZ_app, hz, hm]
            · simp [aq, c]
          | false =>
            rw [hm, if_neg (by decide)] at aq
            by_cases c : stA (stA 0 l) m = stA 0 l
            · simp [aq, c, hasZ_app, hz, hm]
            · simp [aq, c]
end Mt
namespace Mt
open PySem PySem.Spec PyProof.Rows L2
def spJRingG (K : PySem.W.Frag) : Sp := fun vs H Q _ => ∃ (vc vp : V) (z : Str) (base : Int) (C : Chn) (way ring : List (List Int)), vs = [vc, .str z, vp] ∧ Dp K H vc (dChn base C) ∧ ChS C ∧ 0 < C.length ∧ Dp K H vp (.tuple [dWs way, dWs ring]) ∧ way.length ≤ 1000 ∧ ring.length ≤ 1000 ∧
  ∀ H', Same H H' → Q (.bl (jring C z way ring)) H'
def spRgTaken (K : PySem.W.Frag) : Sp := fun vs H Q _ => ∃ (vc vw vg : V) (z : Str) (base : Int) (C : Chn) (way ring : List (List Int)), vs = [vc, .str z, vw, vg] ∧ Dp K H vc (dChn base C) ∧ ChnOk base C ∧ Dp K H vw (dWs way) ∧ Dp K H vg (dWs ring) ∧ way.length ≤ 1000 ∧ ring.length ≤ 1000 ∧
  ∀ H', Same H H' → Q (.bl (lring (quietC C z) way ring)) H'
theorem quiet_s {C : Chn} {z : Str} (h : ChS C) : ChS (quietC C z) := ⟨by unfold quietC; rw [List.length_map]; exact h.few, fun r hr => by
  obtain ⟨r0, h0, rfl⟩ := List.mem_map.mp hr
  obtain ⟨h1, h2⟩ := h.row r0 h0
  refine ⟨Nat.le_trans (List.length_filter_le _ _) h1, fun b hb => ?_⟩
  have := h2 b (List.mem_filter.mp hb).1
  unfold quietC
  rw [List.length_map]
  exact this⟩
section
variable {P : Program} {w : World} {K : PySem.W.Frag} {mg : Str → Option Value} {base : Heap}
theorem ok_judge_ring (T : Txt K mg) (D_ring_along : Kept P w K mg base 2 "ring_along" ["rows", "way", "ring"] (spRAlongG K)) {f : Addr} {fd : FuncData} (F : FnP K "judge_ring" s_judge_ring f fd) : FnOk P w K mg base CX0 3 f fd ["chain", "mark", "paper"] (spJRingG K) := by
  refine F.ok sc_judge_ring (fun vs H Q E h => ?_) (fun cdv A outer s H vs Q E hr h => ?_)
  · obtain ⟨vc, vp, z, b, C, way, ring, rfl, _⟩ := h
    rfl
  · obtain ⟨vc, vp, z, b, C, way, ring, rfl, hC, ok, c0, hp, l1, l2, q⟩ := h
    refine ⟨_, PSs.nox (pss_cons (ps_asg (pv 2) (pg_tup rfl (pgs_cons (pg_name (i := 3) sc_judge_ring.nd rfl (Or.inl rfl)) (pgs_cons (pg_name (i := 4) sc_judge_ring.nd rfl (Or.inl rfl)) pgs_nil))))
      (pss_cons (ps_set (i := 5) sc_judge_ring.nd rfl (Or.inl rfl) (pe_d D_ring_along (hr.mono (by decide)) (by rfl) (pa_cons (pe_ix ix_tup (pv 0) pe_int (fun _ _ => rfl)) (pa_cons (pv 3) (pa_cons (pv 4) pa_nil)))))
      (pss_cons (ps_if (pt_cmpR op_isN (pv 5) pe_non (nomark _)) (pss_one (ps_ret pe_bl)) pss_nil)
      (pss_one (ps_ret (pe_not (pe_callB (cr_any rfl) (by rfl) T.b_any (by decide +kernel) (pa_cons (pe_lc2 (own := [("part", 6), ("branch", 7)]) (vs1 := [7]) (g := (gName 6)) (g1 := (gName 7)) (tt := tYes) (tt1 := tYes) rfl sc_judge_ring.nd (pi_tup (pv 5)) (blkOk_by (N := N_judge_ring) (sc := defScope s_judge_ring) (by decide +kernel)) (by decide) (fun _ _ _ _ _ => (pg_name (i := 6) sc_judge_ring.nd rfl (Or.inl rfl))) (fun _ _ _ _ _ => pts_nil) (fun _ _ _ _ _ => (piLK (K := K) rfl (pv 6))) (fun _ _ _ _ _ => (pg_name (i := 7) sc_judge_ring.nd rfl (Or.inl rfl))) (fun _ _ _ _ _ => pts_nil) (fun _ _ _ _ _ => (pe_cmpR (inK (K := K) rfl) (pv 1) (pe_ix (ixT (K := K) rfl) (pv 7) pe_int (fun _ _ => rfl)) (by rfl)))) pa_nil)))))))), ?_⟩
    obtain ⟨pc, pq, xs, rfl, hpc, hpq, hA⟩ := chn_at hC
    obtain ⟨pp, us, rfl, hpp, hus⟩ := dp_tup hp
    obtain ⟨x0, r0', rfl, hx0, hus⟩ := dpA_cons hus
    obtain ⟨x1, r1', rfl, hx1, hus⟩ := dpA_cons hus
    cases dpA_nil hus
    refine ⟨_, rfl, _, _, rfl, hpp, rfl, _, _, rfl, _, _, rfl, rfl, ?_⟩
    refine ⟨_, rfl, pc, _, _, _, rfl, rfl, hpc, atI_nat (j := 2) rfl, _, rfl, _, rfl, .ref pq, x0, x1, C, way, ring, rfl, .tup hpq hA, ok, c0, l1, l2, hx0, hx1, fun H1 v s1 hv => ?_⟩
    cases hrg : ringB C way ring with
    | none =>
      rw [hrg] at hv
      obtain rfl : v = .non := hv
      refine ⟨_, rfl, rfl, _, rfl, ite2 (fun _ => ?_) (fun h => absurd rfl h)⟩
      have := q _ s1
      unfold jring at this
      rw [hrg] at this
      exact this
    | some lm =>
      obtain ⟨l, m⟩ := lm
      rw [hrg] at hv
      have hv : Dp K H1 v (.tuple [.list (l.map dBr), .list (m.map dBr)]) := hv
      have len : l.length ≤ 1000 ∧ m.length ≤ 1000 := by
        unfold ringB at hrg
        cases hal : alongB C 0 way with
        | none =>
          rw [hal] at hrg
          cases hrg
        | some l' =>
          rw [hal] at hrg
          obtain ⟨h1, h2, _⟩ := along_ok ok c0 hal
          have hrg : (if ring = [] then none else match alongB C (stA 0 l') ring with | none => none | some m => if stA (stA 0 l') m = stA 0 l' then some (l', m) else none) = some (l, m) := hrg
          split at hrg
          · cases hrg
          · cases har : alongB C (stA 0 l') ring with
            | none =>
              rw [har] at hrg
              cases hrg
            | some m' =>
              rw [har] at hrg
              obtain ⟨_, h4, _⟩ := along_ok ok h1 har
              have hrg : (if stA (stA 0 l') m' = stA 0 l' then some (l', m') else none) = some (l, m) := hrg
              split at hrg
              · cases hrg
                exact ⟨by omega, by omega⟩
              · cases hrg
      obtain ⟨pw, vs, rfl, hpw, hvs⟩ := dp_tup hv
      obtain ⟨y0, r0', rfl, hy0, hvs⟩ := dpA_cons hvs
      obtain ⟨y1, r1', rfl, hy1, hvs⟩ := dpA_cons hvs
      cases dpA_nil hvs
      refine ⟨_, rfl, rfl, _, rfl, ite2 (fun h => (nomatch (show false = true from h))) (fun _ => ?_)⟩
      have part : ∀ (i : Nat) (y : V), [y0, y1][i]? = some y → ∃ k : List Br, [l, m][i]? = some k ∧ Dp K H1 y (.list (k.map dBr)) ∧ k.length ≤ 1000 := fun i y h => by
        match i, h with
        | 0, h =>
          obtain rfl := Option.some.inj h
          exact ⟨l, rfl, hy0, len.1⟩
        | 1, h =>
          obtain rfl := Option.some.inj h
          exact ⟨m, rfl, hy1, len.2⟩
        | i + 2, h => cases h
      refine ⟨_, rfl, pw, rfl, ⟨_, hpw⟩, fun M hM => lc2_out (walk_tup (K := K) (a := pw) (xs := [y0, y1])) (fun i H' => Same H1 H' ∧ (([l, m].take i).flatten).length ≤ i * 1000 ∧ H' M = some (.lst (((([l, m].take i).flatten).map fun b => decide (z ∈ b.2.1)).map V.bl))) ⟨same_new hM, Nat.zero_le _, upd_same⟩ (fun i H' _ e => same_t e.1 hpw) ?_ ?_⟩
      · rintro i y H2 H2' hi ⟨s2, hk, hM2⟩ ⟨e2, hy⟩
        subst e2
        obtain ⟨kb, hki, hkb, kl⟩ := part i y hy
        obtain ⟨pk, zs, rfl, hpk, hzs⟩ := dp_lst hkb
        have zl := dpA_len hzs
        rw [List.length_map] at zl
        have i2 : i < 2 := hi
        refine ⟨rfl, _, rfl, pk, rfl, ⟨_, same_l s2 hpk⟩, lc2_in (walk_list (K := K) (a := pk) (xs := zs)) (fun j H' => Same H1 H' ∧ H' M = some (.lst (((([l, m].take i).flatten ++ kb.take j).map fun b => decide (z ∈ b.2.1)).map V.bl))) ⟨s2, by rw [List.take_zero, List.append_nil]; exact hM2⟩ (fun j H' _ e => same_l e.1 hpk) ?_ ?_⟩
        · rintro j x H3 H3' hj ⟨s3, hM3⟩ ⟨e3, hx⟩
          subst e3
          obtain ⟨br, hbr, hy⟩ := dpA_mem (dpA_same s3 _ _ hzs) hx
          obtain ⟨pb, u0, u1, rfl, hpb, hd0, hd1⟩ := br_at hy
          obtain ⟨p1, rfl, hp1⟩ := sh_at hd1
          refine ⟨rfl, _, rfl, _, rfl, pb, _, _, _, rfl, rfl, hpb, atI_nat (j := 1) rfl, p1, _, rfl, .inr hp1, rfl, flat_strs _, ?_⟩
          rw [inV_str]
          refine ⟨_, hM3, ?_, same_mut s3 hM, ?_⟩
          · rw [List.length_map, List.length_map, List.length_append, List.length_take]
            exact line6 (by omega)
          · rw [upd_same, take_snoc hbr, ← List.append_assoc, List.map_append (l₂ := [br]), List.map_append (f := V.bl)]
            rfl
        · rintro H3 ⟨s3, hM3⟩
          rw [zl, List.take_length] at hM3
          have ef : ([l, m].take (i + 1)).flatten = ([l, m].take i).flatten ++ kb := by
            rw [take_snoc hki, List.flatten_append]
            simp
          rw [ef]
          exact ⟨s3, by rw [List.length_append]; omega, hM3⟩
      · rintro H2 ⟨s2, hk, hM2⟩
        refine ⟨M, _, rfl, SqL.of hM2, ⟨_, rfl, ?_⟩⟩
        have := q _ (s1.trans s2)
        unfold jring at this
        rw [hrg] at this
        have ef : ((([l, m].take [y0, y1].length).flatten).map fun b => decide (z ∈ b.2.1)).any id = hasZ z (l ++ m) := by
          show ((([l, m]).flatten).map fun b => decide (z ∈ b.2.1)).any id = _
          rw [List.any_map]
          unfold hasZ
          simp
        rw [ef]
        exact this
theorem ok__law_ring_taken (T : Txt K mg) (D__law_along : Kept P w K mg base 2 "_law_along" ["chain", "worths", "start", "blocks"] (spLAlong K)) {f : Addr} {fd : FuncData} (F : FnP K "_law_ring_taken" s__law_ring_taken f fd) : FnOk P w K mg base CX0 3 f fd ["chain", "mark", "way", "ring"] (spRgTaken K) := by
  refine F.ok sc__law_ring_taken (fun vs H Q E h => ?_) (fun cdv A outer s H vs Q E hr h => ?_)
  · obtain ⟨vc, vw, vg, z, b, C, way, ring, rfl, _⟩ := h
    rfl
  · obtain ⟨vc, vw, vg, z, b, C, way, ring, rfl, hC, ok, hw, hg, l1, l2, q⟩ := h
    refine ⟨_, PSs.nox (pss_cons (ps_set (i := 4) sc__law_ring_taken.nd rfl (Or.inl rfl) (pe_lst pa_nil))
      (pss_cons (ps_for PassesOwn.never rfl (pi_tup (pe_ix ix_tup (pv 0) pe_int (fun _ _ => rfl))) (pg_name (i := 5) sc__law_ring_taken.nd rfl (Or.inl rfl)) (pss_one (ps_expr (pe_bm PySem.F.plainAttrs_list PySem.F.slot_list_append PySem.F.type_list_append mt_append (pv 4) (pa_cons (pe_callTy (tupOfT (K := K) rfl) (by rfl) T.b_tuple (by decide +kernel) (pa_cons (pe_lc (own := [("branch", 6)]) (g := (gName 6)) rfl sc__law_ring_taken.nd (pi_tup (pv 5)) (blkOk_by (N := N__law_ring_taken) (sc := defScope s__law_ring_taken) (by decide +kernel)) (fun _ _ _ _ _ => (pg_name (i := 6) sc__law_ring_taken.nd rfl (Or.inl rfl))) (fun _ _ _ _ _ => (pts_one (pt_cmpR (ninK (K := K) rfl) (pv 1) (pe_ix (ixT (K := K) rfl) (pv 6) pe_int (fun _ _ => rfl)) (by rfl)))) (fun _ _ _ _ _ => (pv 6))) pa_nil)) pa_nil)))))
      (pss_cons (ps_set (i := 7) sc__law_ring_taken.nd rfl (Or.inl rfl) (pe_d D__law_along (hr.mono (by decide)) (by rfl) (pa_cons (pe_tup (pa_cons pe_str (pa_cons (pe_ix ix_tup (pv 0) pe_int (fun _ _ => rfl)) (pa_cons (pe_callTy (tupOfT (K := K) rfl) (by rfl) T.b_tuple (by decide +kernel) (pa_cons (pv 4) pa_nil)) pa_nil)))) (pa_cons (pe_tup pa_nil) (pa_cons pe_int (pa_cons (pv 2) pa_nil))))))
      (pss_cons (ps_if (PW.pt (pw_or (pt_cmpR op_isN (pv 7) pe_non (nomark _)) (pw_or1 (pt_cmpR op_eq (pe_callB call_len (by rfl) T.b_len (by decide +kernel) (pa_cons (pv 3) pa_nil)) pe_int (nomark _))))) (pss_one (ps_ret pe_bl)) pss_nil)
      (pss_cons (ps_set (i := 8) sc__law_ring_taken.nd rfl (Or.inl rfl) (pe_d D__law_along (hr.mono (by decide)) (by rfl) (pa_cons (pe_tup (pa_cons pe_str (pa_cons (pe_ix ix_tup (pv 0) pe_int (fun _ _ => rfl)) (pa_cons (pe_callTy (tupOfT (K := K) rfl) (by rfl) T.b_tuple (by decide +kernel) (pa_cons (pv 4) pa_nil)) pa_nil)))) (pa_cons (pe_tup pa_nil) (pa_cons (pe_ix ix_tup (pv 7) pe_int (fun _ _ => rfl)) (pa_cons (pv 3) pa_nil))))))
      (pss_one (ps_ret (pe_and (pe_cmpR op_notN (pv 8) pe_non (nomark _)) (pe_one (pe_cmpR op_eq (pe_ix ix_tup (pv 8) pe_int (fun _ _ => rfl)) (pe_ix ix_tup (pv 7) pe_int (fun _ _ => rfl)) (nomark _))))))))))), ?_⟩
    obtain ⟨pc, pq, xs, rfl, hpc, hpq, hA⟩ := chn_at hC
    have xl := dpA_len hA
    rw [List.length_map] at xl
    have few := ok.few
    refine ⟨Nat.zero_le _, fun L hL => ?_⟩
    have s1 := same_new (o := .lst []) hL
    have hL1 := upd_same (H := H) (a := L) (o := .lst [])
    generalize upd H L (.lst []) = H1 at s1 hL1
    refine ⟨_, rfl, pc, _, _, _, rfl, rfl, same_t s1 hpc, atI_nat (j := 2) rfl, pq, rfl, ⟨_, same_t s1 hpq⟩, for_tup (K := K) (a := pq) (xs := xs) (fun i σ H' => ∃ (y5 : Option V) (zs : List V), σ = [some (.ref pc), some (.str z), some vw, some vg, some (.ref L), y5, none, none, none] ∧ Same H H' ∧ H' L = some (.lst zs) ∧ DpAll K H' zs (((C.take i).map (sl z)).map dRw)) ⟨_, [], rfl, s1, hL1, .nil⟩ (fun i σ H' _ ⟨_, _, _, s, _⟩ => same_t s hpq) ?_ ?_⟩
    · rintro i x σ H2 hi ⟨y5, zs, rfl, s2, hL2, hzs⟩
      obtain ⟨r, er, dr⟩ := dpA_mem hA hi
      have il := (List.getElem?_eq_some_iff.mp er).1
      obtain ⟨pr, rs, rfl, hpr, hrs⟩ := dp_tup dr
      have rl := dpA_len hrs
      rw [List.length_map] at rl
      have r20 := (ok.row r (List.mem_of_getElem? er)).few
      have zl := dpA_len hzs
      rw [List.length_map, List.length_map, List.length_take] at zl
      refine ⟨_, rfl, .inl ⟨rfl, _, SqL.of hL2⟩, ?_⟩
      refine ⟨_, rfl, pr, rfl, ⟨_, same_t s2 hpr⟩, fun M hM => lc_tup (K := K) (a := pr) (xs := rs) (fun k H' => Same H2 H' ∧ ∃ us : List V, H' M = some (.lst us) ∧ DpAll K H' us ((sl z (r.take k)).map dBr)) ⟨same_new hM, [], upd_same, .nil⟩ (fun k H' _ e => same_t (s2.trans e.1) hpr) ?_ ?_⟩
      · rintro k x H3 hk ⟨s3, us, hM3, hus⟩
        obtain ⟨bx, hbx, hx⟩ := dpA_mem (dpA_same (s2.trans s3) _ _ hrs) hk
        have hx' := hx
        have kl := (List.getElem?_eq_some_iff.mp hbx).1
        obtain ⟨px, x0, x1, rfl, hpx, hd0, hd1⟩ := br_at hx
        obtain ⟨p1, rfl, hp1⟩ := sh_at hd1
        have ul := dpA_len hus
        rw [List.length_map] at ul
        have fl := List.length_filter_le (fun b : Br => !decide (z ∈ b.2.1)) (r.take k)
        rw [List.length_take] at fl
        have ul2 : us.length ≤ 20 := by
          have e : (sl z (r.take k)).length = ((r.take k).filter fun b : Br => !decide (z ∈ b.2.1)).length := rfl
          omega
        have ft : sl z (r.take (k + 1)) = sl z (r.take k) ++ if (!decide (z ∈ bx.2.1)) = true then [bx] else [] := by
          unfold sl
          rw [take_snoc hbx, List.filter_append, List.filter_cons, List.filter_nil]
        refine ⟨rfl, _, rfl, _, rfl, px, _, _, _, rfl, rfl, hpx, atI_nat (j := 1) rfl, p1, _, rfl, .inr hp1, rfl, flat_strs _, _, rfl, ?_⟩
        rw [inV_str, ft]
        cases hz : decide (z ∈ bx.2.1) with
        | true =>
          refine ⟨s3, us, hM3, ?_⟩
          rw [if_neg (by decide), List.append_nil]
          exact hus
        | false =>
          refine ⟨_, rfl, us, hM3, line6 (by omega), same_mut s3 hM, us ++ [.ref px], upd_same, ?_⟩
          have kM := keepT_nt (o := .lst (us ++ [.ref px])) (nt_lst _) hM3
          rw [if_pos (by decide), List.map_append]
          exact dpA_snoc (dpA_keep kM _ _ (noLs_br _) hus) (dp_keep kM _ _ (dBr_noL _) hx')
      · rintro H3 ⟨s3, us, hM3, hus⟩
        rw [rl, List.take_length] at hus
        refine ⟨M, us, rfl, .inl ⟨SqL.of hM3, fun pt hpt => ?_⟩⟩
        have sA := same_new (o := .tup us) hpt
        have dA : Dp K (upd H3 pt (.tup us)) (.ref pt) (dRw (sl z r)) := .tup (SqT.of upd_same) (dpA_same sA _ _ hus)
        have hLA := sA _ _ (s3 _ _ hL2)
        have hzA := dpA_same (s3.trans sA) _ _ hzs
        generalize upd H3 pt (.tup us) = HA at sA dA hLA hzA
        have kB := keepT_nt (o := .lst (zs ++ [.ref pt])) (nt_lst _) hLA
        refine ⟨L, zs, _, rfl, rfl, hLA, line6 (by omega), _, zs ++ [.ref pt], rfl, same_mut (s2.trans (s3.trans sA)) hL, upd_same, ?_⟩
        rw [take_snoc er, List.map_append, List.map_append]
        exact dpA_snoc (dpA_keep kB _ _ (noLs_rw _) hzA) (dp_keep kB _ _ (dRw_noL _) dA)
    · rintro σ H2 ⟨y5, zs, rfl, s2, hL2, hzs⟩
      rw [xl, List.take_length] at hzs
      have okQ := quiet_s (z := z) ok.s
      have ql : (quietC C z).length = C.length := List.length_map _
      have cp := ok.pos
      refine ⟨_, rfl, pc, _, _, _, rfl, rfl, same_t s2 hpc, atI_nat (j := 1) rfl, _, rfl, L, zs, rfl, .inl ⟨SqL.of hL2, fun pt hpt => ⟨z3, fun pd hpd => ⟨Nat.zero_le _, fun pe hpe => ?_⟩⟩⟩⟩
      have hd3 : Dp K (upd (upd (upd H2 pt (.tup zs)) pd (.tup [.str "chain", .int b, .ref pt])) pe (.tup [])) (.ref pd) (dChn b (quietC C z)) := by
        have sA := same_new (o := .tup zs) hpt
        have sB := same_new (o := .tup [.str "chain", .int b, .ref pt]) hpd
        have sC := same_new (o := .tup []) hpe
        exact .tup (SqT.of (sC _ _ upd_same)) (.cons (.str _) (.cons (.int _) (.cons (.tup (SqT.of (sC _ _ (sB _ _ upd_same))) (dpA_same ((sA.trans sB).trans sC) _ _ hzs)) .nil)))
      have s3 := s2.trans (((same_new (o := .tup zs) hpt).trans (same_new (o := .tup [.str "chain", .int b, .ref pt]) hpd)).trans (same_new (o := .tup []) hpe))
      have hw0 : WAtS K (upd (upd (upd H2 pt (.tup zs)) pd (.tup [.str "chain", .int b, .ref pt])) pe (.tup [])) (.ref pe) [] := ⟨pe, [], rfl, SqT.of upd_same, fun _ h => absurd h List.not_mem_nil, rfl⟩
      have hL3 := same_new (o := .tup []) hpe _ _ (same_new (o := .tup [.str "chain", .int b, .ref pt]) hpd _ _ (same_new (o := .tup zs) hpt _ _ hL2))
      have hz3 := dpA_same (((same_new (o := .tup zs) hpt).trans (same_new (o := .tup [.str "chain", .int b, .ref pt]) hpd)).trans (same_new (o := .tup []) hpe)) _ _ hzs
      generalize upd (upd (upd H2 pt (.tup zs)) pd (.tup [.str "chain", .int b, .ref pt])) pe (.tup []) = H3 at hd3 s3 hw0 hL3 hz3 ⊢
      refine ⟨_, rfl, _, .ref pe, vw, 0, b, quietC C z, [], way, rfl, hd3, okQ, by omega, hw0, List.nodup_nil, Nat.zero_le _, l1, dp_same s3 _ _ hw, fun H4 v s4 hv => ?_⟩
      have s04 := s3.trans s4
      obtain ⟨pg, gs, rfl, hpg, hgs⟩ := dp_tup hg
      have gl := dpA_len hgs
      rw [List.length_map] at gl
      cases hal : alongB (quietC C z) 0 way with
      | none =>
        rw [hal] at hv
        obtain rfl : v = .non := hv
        refine ⟨_, rfl, rfl, _, rfl, ite2 (fun _ => ite2 (fun _ => ?_) (fun h => absurd rfl h)) (fun h => absurd rfl h)⟩
        have := q _ s04
        unfold lring at this
        rw [hal] at this
        exact this
      | some l =>
        rw [hal] at hv
        have hv : Dp K H4 v (.tuple [.int ((stA 0 l : Nat) : Int), .int (wsum [] l)]) := hv
        obtain ⟨st1, _, _⟩ := along_ok okQ (by omega) hal
        obtain ⟨pa, as, rfl, hpa, has⟩ := dp_tup hv
        obtain ⟨v0, r0', rfl, hv0, has⟩ := dpA_cons has
        obtain ⟨v1, r1', rfl, hv1, has⟩ := dpA_cons has
        cases dpA_nil has
        obtain rfl := dp_int hv0
        refine ⟨_, rfl, rfl, _, rfl, ite2 (fun h => (nomatch (show false = true from h))) (fun _ => ⟨_, rfl, _, _, rfl, .inr ⟨_, same_t s04 hpg, rfl⟩, rfl, _, rfl, ite2 (fun h => ?_) (fun h => ?_)⟩)⟩
        · have h := V.int.inj (of_decide_eq_true h)
          have r0 : ring = [] := List.length_eq_zero_iff.mp (by omega)
          have := q _ s04
          unfold lring at this
          rw [hal] at this
          simp only [r0, if_true] at this
          exact this
        · have r0 : ring ≠ [] := fun z => h (by rw [gl, z]; rfl)
          have hL4 := s4 _ _ hL3
          have hz4 := dpA_same s4 _ _ hz3
          refine ⟨_, rfl, pc, _, _, _, rfl, rfl, same_t s04 hpc, atI_nat (j := 1) rfl, _, rfl, L, zs, rfl, .inl ⟨SqL.of hL4, fun pt hpt => ⟨z3, fun pd hpd => ⟨Nat.zero_le _, fun pe hpe => ?_⟩⟩⟩⟩
          have hd5 : Dp K (upd (upd (upd H4 pt (.tup zs)) pd (.tup [.str "chain", .int b, .ref pt])) pe (.tup [])) (.ref pd) (dChn b (quietC C z)) := by
            have sA := same_new (o := .tup zs) hpt
            have sB := same_new (o := .tup [.str "chain", .int b, .ref pt]) hpd
            have sC := same_new (o := .tup []) hpe
            exact .tup (SqT.of (sC _ _ upd_same)) (.cons (.str _) (.cons (.int _) (.cons (.tup (SqT.of (sC _ _ (sB _ _ upd_same))) (dpA_same ((sA.trans sB).trans sC) _ _ hz4)) .nil)))
          have s5 := ((same_new (o := .tup zs) hpt).trans (same_new (o := .tup [.str "chain", .int b, .ref pt]) hpd)).trans (same_new (o := .tup []) hpe)
          have hw5 : WAtS K (upd (upd (upd H4 pt (.tup zs)) pd (.tup [.str "chain", .int b, .ref pt])) pe (.tup [])) (.ref pe) [] := ⟨pe, [], rfl, SqT.of upd_same, fun _ h => absurd h List.not_mem_nil, rfl⟩
          generalize upd (upd (upd H4 pt (.tup zs)) pd (.tup [.str "chain", .int b, .ref pt])) pe (.tup []) = H5 at hd5 s5 hw5 ⊢
          have s05 := s04.trans s5
          refine ⟨_, rfl, pa, _, _, _, rfl, rfl, same_t s5 hpa, atI_nat (j := 0) rfl, _, rfl, _, .ref pe, .ref pg, stA 0 l, b, quietC C z, [], ring, rfl, hd5, okQ, st1, hw5, List.nodup_nil, Nat.zero_le _, l2, dp_same s05 _ _ hg, fun H6 v6 s6 hv6 => ?_⟩
          have s06 := s05.trans s6
          have hpa6 := same_t (s5.trans s6) hpa
          have qq := q _ s06
          unfold lring at qq
          rw [hal] at qq
          have qq : Q (.bl (if ring = [] then false else match alongB (quietC C z) (stA 0 l) ring with | none => false | some m => decide (stA (stA 0 l) m = stA 0 l))) H6 := qq
          rw [if_neg r0] at qq
          cases har : alongB (quietC C z) (stA 0 l) ring with
          | none =>
            rw [har] at hv6 qq
            obtain rfl : v6 = .non := hv6
            exact ⟨_, rfl, rfl, _, rfl, ite2 (fun h => (nomatch (show false = true from h))) (fun _ => qq)⟩
          | some m =>
            rw [har] at hv6 qq
            have hv6 : Dp K H6 v6 (.tuple [.int ((stA (stA 0 l) m : Nat) : Int), .int (wsum [] m)]) := hv6
            obtain ⟨pb, bs, rfl, hpb, hbs⟩ := dp_tup hv6
            obtain ⟨u0, r0', rfl, hu0, hbs⟩ := dpA_cons hbs
            obtain ⟨u1, r1', rfl, hu1, hbs⟩ := dpA_cons hbs
            cases dpA_nil hbs
            obtain rfl := dp_int hu0
            refine ⟨_, rfl, rfl, _, rfl, ite2 (fun _ => ?_) (fun h => absurd rfl h)⟩
            refine ⟨_, rfl, pb, _, _, _, rfl, rfl, hpb, atI_nat (j := 0) rfl, _, rfl, pa, _, _, _, rfl, rfl, hpa6, atI_nat (j := 0) rfl, rfl, ?_⟩
            have ed : decide (V.int ((stA (stA 0 l) m : Nat) : Int) = V.int ((stA 0 l : Nat) : Int)) = decide (stA (stA 0 l) m = stA 0 l) := by
              by_cases c : stA (stA 0 l) m = stA 0 l
              · rw [c, decide_eq_true rfl, decide_eq_true rfl]
              · rw [decide_eq_false c, decide_eq_false fun h => c (by have := V.int.inj h; omega)]
            rw [ed]
            exact qq
end
end Mt
namespace Mt
open PySem PySem.Spec PyProof.Rows L2
theorem walk_zipT {K : PySem.W.Frag} {a b : Addr} {xs ys : List V} {n : Nat} (hn : n = min xs.length ys.length) : Walk (RZ.ItzT K a b) n (fun H => SqT K H a xs ∧ SqT K H b ys) (YPair (fun i => xs[i]?) (fun i => ys[i]?)) := by
  subst hn
  refine ⟨fun i _ hi q => ?_, fun _ q => ⟨xs, ys, q.1, q.2, by omega⟩, fun i H v H' _ q y => ?_⟩
  · have h1 : i < xs.length := by omega
    have h2 : i < ys.length := by omega
    exact ⟨xs, ys, xs[i], ys[i], q.1, q.2, by simp [h1], by simp [h2]⟩
  · obtain ⟨T, x, z, h1, h2, h3, h4, h5⟩ := y
    exact ⟨T, x, z, h1, h2, h3, h4 xs q.1, h5 ys q.2⟩
def gi (ks : List Int) (i : Nat) : Int := (ks[i]?).getD 0
def sureB (z : Str) (ks : List Int) (rho : Int) (r : List Br) : Bool := r.all fun b => decide (z ∈ b.2.1) || (decide (1 ≤ gi ks b.2.2) && decide (gi ks b.2.2 < rho))
noncomputable def gB (p : Prop) : Bool := @decide p (Classical.propDecidable p)
theorem gB_t {p : Prop} (h : p) : gB p = true := @decide_eq_true p (Classical.propDecidable p) h
theorem gB_f {p : Prop} (h : ¬ p) : gB p = false := @decide_eq_false p (Classical.propDecidable p) h
structure RkP (C : Chn) (z : Str) (ks : List Int) : Prop where
  len : ks.length = C.length
  pos : 0 < gi ks 0
  nn : ∀ k ∈ ks, 0 ≤ k
  row : ∀ (s : Nat) (r : List Br), C[s]? = some r → 0 < gi ks s → ∀ b ∈ r, z ∈ b.2.1 ∨ (1 ≤ gi ks b.2.2 ∧ gi ks b.2.2 < gi ks s)
theorem gi_at {ks : List Int} {i : Nat} {k : Int} (h : ks[i]? = some k) : gi ks i = k := by
  unfold gi
  rw [h]
  rfl
theorem gi_ix {ks : List Int} {i : Nat} (h : i < ks.length) : atI (ks.map V.int) (i : Int) = some (.int (gi ks i)) := atI_nat (by
  rw [List.getElem?_map, List.getElem?_eq_getElem h]
  unfold gi
  rw [List.getElem?_eq_getElem h]
  rfl)
def spSureG (K : PySem.W.Frag) : Sp := fun vs H Q _ => ∃ (vr : V) (z : Str) (pk : Addr) (rho : Int) (r : List Br) (ks : List Int), vs = [vr, .str z, .ref pk, .int rho] ∧ Dp K H vr (dRw r) ∧ SqT K H pk (ks.map V.int) ∧ r.length ≤ 20 ∧ (∀ b ∈ r, b.2.2 < ks.length) ∧ ∀ H', Same H H' → Q (.bl (sureB z ks rho r)) H'
def spJRanksG (K : PySem.W.Frag) : Sp := fun vs H Q _ => ∃ (vc : V) (z : Str) (pk : Addr) (base : Int) (C : Chn) (ks : List Int), vs = [vc, .str z, .ref pk] ∧ Dp K H vc (dChn base C) ∧ ChS C ∧ 0 < C.length ∧ SqT K H pk (ks.map V.int) ∧ ks.length ≤ 200 ∧ ∀ H', Same H H' → Q (.bl (gB (RkP C z ks))) H'
abbrev spRkTaken (K : PySem.W.Frag) : Sp := spJRanksG K
section
variable {P : Program} {w : World} {K : PySem.W.Frag} {mg : Str → Option Value} {base : Heap}
theorem ok_is_sure (T : Txt K mg) {f : Addr} {fd : FuncData} (F : FnP K "is_sure" s_is_sure f fd) : FnOk P w K mg base CX0 1 f fd ["row", "mark", "ranks", "rank"] (spSureG K) := by
  refine F.ok sc_is_sure (fun vs H Q E h => ?_) (fun cdv A outer s H vs Q E hr h => ?_)
  · obtain ⟨vr, z, pk, rho, r, ks, rfl, _⟩ := h
    rfl
  · obtain ⟨vr, z, pk, rho, r, ks, rfl, hR, hk, few, to, q⟩ := h
    refine ⟨_, PSs.nox (pss_one (ps_ret (pe_callB (cr_all rfl) (by rfl) T.b_all (by decide +kernel) (pa_cons (pe_lc (own := [("_", 4), ("shown", 5), ("target", 6)]) (g := (gTup K 3 (gCons (gName 4) (gCons (gName 5) (gCons (gName 6) gNil))))) (tt := tYes) rfl sc_is_sure.nd (pi_tup (pv 0)) (blkOk_by (N := N_is_sure) (sc := defScope s_is_sure) (by decide +kernel)) (fun _ _ _ _ _ => (pg_tup rfl (pgs_cons (pg_name (i := 4) sc_is_sure.nd rfl (Or.inl rfl)) (pgs_cons (pg_name (i := 5) sc_is_sure.nd rfl (Or.inl rfl)) (pgs_cons (pg_name (i := 6) sc_is_sure.nd rfl (Or.inl rfl)) pgs_nil))))) (fun _ _ _ _ _ => pts_nil) (fun _ _ _ _ _ => (pe_or (pe_cmpR (inK (K := K) rfl) (pv 1) (pv 5) (by rfl)) (pe_one (pe_chain op_le op_lt pe_int (pe_ix (ixT (K := K) rfl) (pv 2) (pv 6) (fun _ _ => rfl)) (pv 3)))))) pa_nil)))), ?_⟩
    obtain ⟨pr, rs, rfl, hpr, hrs⟩ := dp_tup hR
    have rl := dpA_len hrs
    rw [List.length_map] at rl
    refine ⟨_, rfl, pr, rfl, ⟨_, hpr⟩, fun M hM => lc_tup (K := K) (a := pr) (xs := rs) (fun j H' => Same H H' ∧ H' M = some (.lst (((r.take j).map fun b : Br => decide (z ∈ b.2.1) || (decide (1 ≤ gi ks b.2.2) && decide (gi ks b.2.2 < rho))).map V.bl))) ⟨same_new hM, upd_same⟩ (fun j H' _ e => same_t e.1 hpr) ?_ ?_⟩
    · rintro j y H2 hj ⟨s2, hM2⟩
      obtain ⟨br, hbr, hy⟩ := dpA_mem (dpA_same s2 _ _ hrs) hj
      obtain ⟨pb, x0, x1, rfl, hpb, hd0, hd1⟩ := br_at hy
      obtain ⟨p1, rfl, hp1⟩ := sh_at hd1
      have tob := to br (List.mem_of_getElem? hbr)
      have jl := (List.getElem?_eq_some_iff.mp hbr).1
      have fin : ∀ y : V, y = .bl (decide (z ∈ br.2.1) || (decide (1 ≤ gi ks br.2.2) && decide (gi ks br.2.2 < rho))) → ∃ acc, H2 M = some (.lst acc) ∧ acc.length < sizeLine ∧ Same H (upd H2 M (.lst (acc ++ [y]))) ∧ upd H2 M (.lst (acc ++ [y])) M = some (.lst (((r.take (j + 1)).map fun b : Br => decide (z ∈ b.2.1) || (decide (1 ≤ gi ks b.2.2) && decide (gi ks b.2.2 < rho))).map V.bl)) := fun y e => by
        subst e
        refine ⟨_, hM2, by rw [List.length_map, List.length_map, List.length_take]; exact line6 (by omega), same_mut s2 hM, ?_⟩
        rw [upd_same, ← take_map_succ (f := fun b : Br => decide (z ∈ b.2.1) || (decide (1 ≤ gi ks b.2.2) && decide (gi ks b.2.2 < rho))) hbr, List.map_append]
        rfl
      refine ⟨_, _, rfl, hpb, rfl, _, _, rfl, _, _, rfl, _, _, rfl, rfl, rfl, ?_⟩
      refine ⟨_, rfl, _, rfl, p1, _, rfl, .inr hp1, rfl, flat_strs _, ?_⟩
      refine ⟨_, rfl, ?_⟩
      rw [inV_str]
      cases hz : decide (z ∈ br.2.1) with
      | true =>
        rw [hz] at fin
        exact fin _ rfl
      | false =>
        rw [hz] at fin
        refine ⟨_, rfl, _, rfl, pk, _, _, _, rfl, rfl, same_t s2 hk, gi_ix tob, _, _, rfl, rfl, _, rfl, ite2 (fun g => ?_) (fun g => ?_)⟩
        · refine ⟨_, rfl, _, _, rfl, rfl, fin _ ?_⟩
          rw [show decide (1 ≤ gi ks br.2.2) = true from g]
          rfl
        · refine fin _ ?_
          have g' : decide (1 ≤ gi ks br.2.2) = false := by
            cases e : decide (1 ≤ gi ks br.2.2) with
            | true => exact absurd e g
            | false => rfl
          rw [g']
          rfl
    · rintro H2 ⟨s2, hM2⟩
      rw [rl, List.take_length] at hM2
      refine ⟨M, _, rfl, SqL.of hM2, ?_⟩
      rw [List.all_map]
      exact q _ s2
set_option maxHeartbeats 1000000 in
theorem ok_judge_ranks (T : Txt K mg) (D_is_sure : Kept P w K mg base 1 "is_sure" ["row", "mark", "ranks", "rank"] (spSureG K)) {f : Addr} {fd : FuncData} (F : FnP K "judge_ranks" s_judge_ranks f fd) : FnOk P w K mg base CX0 2 f fd ["chain", "mark", "ranks"] (spJRanksG K) := by
  refine F.ok sc_judge_ranks (fun vs H Q E h => ?_) (fun cdv A outer s H vs Q E hr h => ?_)
  · obtain ⟨vc, z, pk, b, C, ks, rfl, _⟩ := h
    rfl
  · obtain ⟨vc, z, pk, b, C, ks, rfl, hC, ok, pos, hk, k200, q⟩ := h
    refine ⟨_, PSs.nox (pss_cons (ps_set (i := 3) sc_judge_ranks.nd rfl (Or.inl rfl) (pe_ix ix_tup (pv 0) pe_int (fun _ _ => rfl)))
      (pss_cons (ps_if (PW.pt (pw_or (pt_cmpR op_ne (pe_callB call_len (by rfl) T.b_len (by decide +kernel) (pa_cons (pv 2) pa_nil)) (pe_callB call_len (by rfl) T.b_len (by decide +kernel) (pa_cons (pv 3) pa_nil)) (nomark _)) (pw_or (pt_not (pt_val (pe_callB (cr_all rfl) (by rfl) T.b_all (by decide +kernel) (pa_cons (pe_lc (own := [("rank", 4)]) (g := (gName 4)) (tt := tYes) rfl sc_judge_ranks.nd (pi_tup (pv 2)) (blkOk_by (N := N_judge_ranks) (sc := defScope s_judge_ranks) (by decide +kernel)) (fun _ _ _ _ _ => (pg_name (i := 4) sc_judge_ranks.nd rfl (Or.inl rfl))) (fun _ _ _ _ _ => pts_nil) (fun _ _ _ _ _ => (pe_cmpR op_ge (pv 4) pe_int (nomark _)))) pa_nil)))) (pw_or1 (pt_cmpR op_eq (pe_ix ix_tup (pv 2) pe_int (fun _ _ => rfl)) pe_int (nomark _)))))) (pss_one (ps_ret pe_bl)) pss_nil)
      (pss_one (ps_ret (pe_callB (cr_all rfl) (by rfl) T.b_all (by decide +kernel) (pa_cons (pe_lc (own := [("row", 5), ("rank", 4)]) (g := (gTup K 2 (gCons (gName 5) (gCons (gName 4) gNil)))) (tt := tYes) rfl sc_judge_ranks.nd (RZ.pi_zipA (by rfl) T.b_zip (pa_cons (pv 3) (pa_cons (pv 2) pa_nil))) (blkOk_by (N := N_judge_ranks) (sc := defScope s_judge_ranks) (by decide +kernel)) (fun _ _ _ _ _ => (pg_tup rfl (pgs_cons (pg_name (i := 5) sc_judge_ranks.nd rfl (Or.inl rfl)) (pgs_cons (pg_name (i := 4) sc_judge_ranks.nd rfl (Or.inl rfl)) pgs_nil)))) (fun _ _ _ _ _ => pts_nil) (fun _ _ _ _ _ => (pe_or (pe_cmpR op_eq (pv 4) pe_int (nomark _)) (pe_one (pe_d D_is_sure (hr.mono (by decide)) (by rfl) (pa_cons (pv 5) (pa_cons (pv 1) (pa_cons (pv 2) (pa_cons (pv 4) pa_nil))))))))) pa_nil)))))), ?_⟩
    obtain ⟨pc, pq, xs, rfl, hpc, hpq, hA⟩ := chn_at hC
    have xl := dpA_len hA
    rw [List.length_map] at xl
    have few := ok.few
    have no : ∀ H', Same H H' → ¬ RkP C z ks → Q (.bl false) H' := fun H' s h => by
      have := q _ s
      rw [gB_f h] at this
      exact this
    refine ⟨_, rfl, pc, _, _, _, rfl, rfl, hpc, atI_nat (j := 2) rfl, ?_⟩
    refine ⟨_, rfl, _, _, rfl, .inr ⟨_, hk, rfl⟩, _, rfl, _, _, rfl, .inr ⟨_, hpq, rfl⟩, rfl, _, rfl, ?_⟩
    by_cases kl : ks.length = C.length
    · rw [List.length_map, kl, xl]
      refine ite2 (fun h => absurd h (by simp)) (fun _ => ?_)
      refine ⟨_, rfl, pk, rfl, ⟨_, hk⟩, fun M hM => lc_tup (K := K) (a := pk) (xs := ks.map V.int) (fun j H' => Same H H' ∧ H' M = some (.lst (((ks.take j).map fun k => decide (0 ≤ k)).map V.bl))) ⟨same_new hM, upd_same⟩ (fun j H' _ e => same_t e.1 hk) ?_ ?_⟩
      · rintro j y H2 hj ⟨s2, hM2⟩
        obtain ⟨k, rfl, hkj⟩ := getV hj
        have jl := (List.getElem?_eq_some_iff.mp hkj).1
        refine ⟨rfl, _, rfl, _, _, rfl, rfl, _, hM2, by rw [List.length_map, List.length_map, List.length_take]; exact line6 (by omega), same_mut s2 hM, ?_⟩
        rw [upd_same, ← take_map_succ (f := fun k : Int => decide (0 ≤ k)) hkj, List.map_append]
        rfl
      · rintro H2 ⟨s2, hM2⟩
        rw [List.length_map, List.take_length] at hM2
        refine ⟨M, _, rfl, SqL.of hM2, ?_⟩
        rw [List.all_map]
        refine ⟨_, rfl, ?_⟩
        cases hn : ks.all (id ∘ fun k => decide (0 ≤ k)) with
        | false =>
          refine ite2 (fun _ => ite2 (fun _ => ?_) (fun h => absurd rfl h)) (fun h => absurd rfl h)
          refine no _ s2 fun h => ?_
          rw [List.all_eq_false] at hn
          obtain ⟨k, hk, c⟩ := hn
          exact c (decide_eq_true (h.nn k hk))
        | true =>
          have nn : ∀ k ∈ ks, 0 ≤ k := fun k hk => of_decide_eq_true (List.all_eq_true.mp hn k hk)
          refine ite2 (fun h => (nomatch (show false = true from h))) (fun _ => ?_)
          have hk2 := same_t s2 hk
          have k0 : 0 < ks.length := by omega
          refine ⟨_, rfl, pk, _, _, _, rfl, rfl, hk2, gi_ix k0, rfl, _, rfl, ?_⟩
          refine ite2 (fun h => ?_) (fun h => ?_)
          · refine no _ s2 fun r => ?_
            have e0 : gi ks 0 = 0 := V.int.inj (of_decide_eq_true h)
            have := r.pos
            omega
          · have g0 : 0 < gi ks 0 := by
              have h1 : gi ks 0 ≠ 0 := fun e => h (by
                show decide (V.int (gi ks 0) = V.int 0) = true
                rw [e]
                exact decide_eq_true rfl)
              have h2 : 0 ≤ gi ks 0 := by
                have e : ks[0]? = some ks[0] := List.getElem?_eq_getElem k0
                rw [gi_at e]
                exact nn _ (List.getElem_mem k0)
              omega
            refine ⟨_, rfl, _, rfl, pq, pk, xs, _, rfl, .inr ⟨same_t s2 hpq, hk2, fun M2 hM2' => lc_it (walk_zipT (n := C.length) (by rw [List.length_map, kl, xl, Nat.min_self])) (fun j H' => Same H2 H' ∧ H' M2 = some (.lst ((((C.zip ks).take j).map fun p => decide (p.2 = 0) || sureB z ks p.2 p.1).map V.bl))) ⟨same_new hM2', upd_same⟩ (fun j H' _ e => ⟨same_t (s2.trans e.1) hpq, same_t e.1 hk2⟩) ?_ ?_⟩⟩
            · rintro j x H3 H3' hj ⟨s3, hM3⟩ ⟨T', u, v, rfl, hT, rfl, hu, hv⟩
              obtain ⟨k, rfl, hkj⟩ := getV hv
              obtain ⟨r, hr1, dr⟩ := dpA_mem hA hu
              obtain ⟨okr1, okr2⟩ := ok.row r (List.mem_of_getElem? hr1)
              have ez : (C.zip ks)[j]? = some (r, k) := List.getElem?_zip_eq_some (z := (r, k)) |>.mpr ⟨hr1, hkj⟩
              have s4 := s3.trans (same_new (o := .tup [u, .int k]) hT)
              have hM4 := same_new (o := .tup [u, .int k]) hT _ _ hM3
              have hT4 := upd_same (H := H3) (a := T') (o := .tup [u, .int k])
              generalize upd H3 T' (.tup [u, .int k]) = H4 at s4 hM4 hT4
              have szl : ((((C.zip ks).take j).map fun p => decide (p.2 = 0) || sureB z ks p.2 p.1).map V.bl).length < sizeLine := by
                rw [List.length_map, List.length_map, List.length_take, List.length_zip]
                exact line6 (by omega)
              have fin : ∀ (H5 : Hp) (y : V), Same H4 H5 → y = .bl (decide (k = 0) || sureB z ks k r) → ∃ acc, H5 M2 = some (.lst acc) ∧ acc.length < sizeLine ∧ Same H2 (upd H5 M2 (.lst (acc ++ [y]))) ∧ upd H5 M2 (.lst (acc ++ [y])) M2 = some (.lst ((((C.zip ks).take (j + 1)).map fun p => decide (p.2 = 0) || sureB z ks p.2 p.1).map V.bl)) := fun H5 y s5 e => by
                subst e
                refine ⟨_, s5 _ _ hM4, szl, same_mut (s4.trans s5) hM2', ?_⟩
                rw [upd_same, ← take_map_succ (f := fun p : List Br × Int => decide (p.2 = 0) || sureB z ks p.2 p.1) ez, List.map_append]
                rfl
              refine ⟨T', _, rfl, SqT.of hT4, rfl, _, _, rfl, _, _, rfl, rfl, rfl, ?_⟩
              refine ⟨_, rfl, rfl, _, rfl, ?_⟩
              have ed : decide (V.int k = V.int 0) = decide (k = 0) := by
                by_cases c : k = 0
                · rw [c, decide_eq_true rfl, decide_eq_true rfl]
                · rw [decide_eq_false c, decide_eq_false fun h => c (V.int.inj h)]
              rw [ed]
              cases hd : decide (k = 0) with
              | true =>
                rw [hd] at fin
                exact fin _ _ (Same.refl _) rfl
              | false =>
                rw [hd] at fin
                refine ⟨_, rfl, _, rfl, _, rfl, _, rfl, u, z, pk, k, r, ks, rfl, dp_same (s2.trans s4) _ _ dr, same_t (s2.trans s4) hk, okr1, fun b hb => by rw [kl]; exact (okr2 b hb).1, fun H5 s5 => fin _ _ s5 rfl⟩
            · rintro H3 ⟨s3, hM3⟩
              have e1 : (C.zip ks).length = C.length := by rw [List.length_zip, kl, Nat.min_self]
              rw [← e1, List.take_length] at hM3
              refine ⟨M2, _, rfl, SqL.of hM3, ?_⟩
              rw [List.all_map]
              have eg : (C.zip ks).all (id ∘ fun p => decide (p.2 = 0) || sureB z ks p.2 p.1) = gB (RkP C z ks) := by
                cases ha : (C.zip ks).all (id ∘ fun p => decide (p.2 = 0) || sureB z ks p.2 p.1) with
                | true =>
                  have ha := List.all_eq_true.mp ha
                  refine (gB_t ⟨kl, g0, nn, fun s r e hp b hb => ?_⟩).symm
                  have sl := (List.getElem?_eq_some_iff.mp e).1
                  have ek : ks[s]? = some (gi ks s) := by
                    have : s < ks.length := by omega
                    rw [List.getElem?_eq_getElem this]
                    unfold gi
                    rw [List.getElem?_eq_getElem this]
                    rfl
                  have := ha (r, gi ks s) (List.mem_of_getElem? (List.getElem?_zip_eq_some (z := (r, gi ks s)) |>.mpr ⟨e, ek⟩))
                  have this : (decide (gi ks s = 0) || sureB z ks (gi ks s) r) = true := this
                  rw [decide_eq_false (by omega), Bool.false_or] at this
                  have := List.all_eq_true.mp this b hb
                  rcases Bool.or_eq_true_iff.mp this with c | c
                  · exact .inl (of_decide_eq_true c)
                  · obtain ⟨c1, c2⟩ := Bool.and_eq_true_iff.mp c
                    exact .inr ⟨of_decide_eq_true c1, of_decide_eq_true c2⟩
                | false =>
                  refine (gB_f fun rp => ?_).symm
                  rw [List.all_eq_false] at ha
                  obtain ⟨p, hp, c⟩ := ha
                  obtain ⟨s, hs⟩ := List.getElem?_of_mem hp
                  obtain ⟨e1, e2⟩ := List.getElem?_zip_eq_some.mp hs
                  refine c ?_
                  show (decide (p.2 = 0) || sureB z ks p.2 p.1) = true
                  have eg := gi_at e2
                  have n0 := rp.nn p.2 (List.mem_of_getElem? e2)
                  by_cases p0 : p.2 = 0
                  · rw [decide_eq_true p0, Bool.true_or]
                  · rw [decide_eq_false p0, Bool.false_or]
                    refine List.all_eq_true.mpr fun b hb => ?_
                    rcases rp.row s p.1 e1 (by omega) b hb with c | ⟨c1, c2⟩
                    · rw [decide_eq_true c, Bool.true_or]
                    · have c3 : gi ks b.2.2 < p.2 := by omega
                      show (decide (z ∈ b.2.1) || (decide (1 ≤ gi ks b.2.2) && decide (gi ks b.2.2 < p.2))) = true
                      rw [decide_eq_true c1, decide_eq_true c3]
                      exact Bool.or_true _
              rw [eg]
              exact q _ (s2.trans s3)
    · refine ite2 (fun _ => ite2 (fun _ => no _ (Same.refl _) fun h => kl h.len) (fun h => absurd rfl h)) (fun h => absurd ?_ h)
      rw [List.length_map, xl]
      have : V.int (ks.length : Int) ≠ V.int (C.length : Int) := fun z => kl (by have := V.int.inj z; omega)
      simp [this]
end
end Mt
namespace Mt
open PySem PySem.Spec PyProof.Rows L2
section
variable {P : Program} {w : World} {K : PySem.W.Frag} {mg : Str → Option Value} {base : Heap}
set_option maxHeartbeats 1000000 in
theorem ok__law_ranks_taken (T : Txt K mg) {f : Addr} {fd : FuncData} (F : FnP K "_law_ranks_taken" s__law_ranks_taken f fd) : FnOk P w K mg base CX0 1 f fd ["chain", "mark", "ranks"] (spRkTaken K) := by
  refine F.ok sc__law_ranks_taken (fun vs H Q E h => ?_) (fun cdv A outer s H vs Q E hr h => ?_)
  · obtain ⟨vc, z, pk, b, C, ks, rfl, _⟩ := h
    rfl
  · obtain ⟨vc, z, pk, b, C, ks, rfl, hC, ok, pos, hk, k200, q⟩ := h
    refine ⟨_, PSs.nox (pss_cons (ps_if (PW.pt (pw_or (pt_cmpR op_ne (pe_callB call_len (by rfl) T.b_len (by decide +kernel) (pa_cons (pv 2) pa_nil)) (pe_callB call_len (by rfl) T.b_len (by decide +kernel) (pa_cons (pe_ix ix_tup (pv 0) pe_int (fun _ _ => rfl)) pa_nil)) (nomark _)) (pw_or1 (pt_cmpR op_lt (pe_ix ix_tup (pv 2) pe_int (fun _ _ => rfl)) pe_int (nomark _))))) (pss_one (ps_ret pe_bl)) pss_nil)
      (pss_cons (ps_for PassesOwn.never rfl (pi_range1 (by rfl) T.b_range (pa_cons (pe_callB call_len (by rfl) T.b_len (by decide +kernel) (pa_cons (pv 2) pa_nil)) pa_nil)) (pg_name (i := 3) sc__law_ranks_taken.nd rfl (Or.inl rfl)) (pss_cons (ps_if (pt_cmpR op_lt (pe_ix ix_tup (pv 2) (pv 3) (fun _ _ => rfl)) pe_int (nomark _)) (pss_one (ps_ret pe_bl)) pss_nil)
      (pss_one (ps_for PassesOwn.never rfl (pi_tup (pe_ix ix_tup (pe_ix ix_tup (pv 0) pe_int (fun _ _ => rfl)) (pv 3) (fun _ _ => rfl))) (pg_tup rfl (pgs_cons (pg_name (i := 4) sc__law_ranks_taken.nd rfl (Or.inl rfl)) (pgs_cons (pg_name (i := 5) sc__law_ranks_taken.nd rfl (Or.inl rfl)) (pgs_cons (pg_name (i := 6) sc__law_ranks_taken.nd rfl (Or.inl rfl)) pgs_nil)))) (pss_one (ps_if (PW.pt (pw_and (pt_cmpR op_gt (pe_ix ix_tup (pv 2) (pv 3) (fun _ _ => rfl)) pe_int (nomark _)) (pw_and (pt_cmpR op_notIn_seq (pv 1) (pv 5) (by rfl)) (pw_and1 (pt_not (pt_chain op_le op_le pe_int (pe_ix ix_tup (pv 2) (pv 6) (fun _ _ => rfl)) (pe_op op_sub (pe_ix ix_tup (pv 2) (pv 3) (fun _ _ => rfl)) pe_int))))))) (pss_one (ps_ret pe_bl)) pss_nil))))))
      (pss_one (ps_ret pe_bl)))), ?_⟩
    obtain ⟨pc, pq, xs, rfl, hpc, hpq, hA⟩ := chn_at hC
    have xl := dpA_len hA
    rw [List.length_map] at xl
    have few := ok.few
    have no : ∀ H', Same H H' → ¬ RkP C z ks → Q (.bl false) H' := fun H' s h => by
      have := q _ s
      rw [gB_f h] at this
      exact this
    refine ⟨_, rfl, _, _, rfl, .inr ⟨_, hk, rfl⟩, _, rfl, pc, _, _, _, rfl, rfl, hpc, atI_nat (j := 2) rfl, _, _, rfl, .inr ⟨_, hpq, rfl⟩, rfl, _, rfl, ?_⟩
    by_cases kl : ks.length = C.length
    · rw [List.length_map, kl, xl]
      refine ite2 (fun h => absurd h (by simp)) (fun _ => ?_)
      have k0 : 0 < ks.length := by omega
      refine ⟨_, rfl, pk, _, _, _, rfl, rfl, hk, gi_ix k0, _, _, rfl, rfl, _, rfl, ?_⟩
      refine ite2 (fun h => no _ (Same.refl _) fun r => ?_) (fun h => ?_)
      · have e0 : gi ks 0 < 1 := of_decide_eq_true h
        have := r.pos
        omega
      have g0 : 0 < gi ks 0 := by
        have : ¬ gi ks 0 < 1 := fun e => h (decide_eq_true e)
        omega
      refine ⟨_, rfl, _, _, rfl, .inr ⟨_, hk, rfl⟩, _, rfl, by rw [List.length_map]; omega, by rw [List.length_map]; omega, for_range (lo := 0) (n := (((ks.map V.int).length : Nat) : Int).toNat) (fun i σ H' => ∃ (y3 y4 y5 y6 : Option V), σ = [some (.ref pc), some (.str z), some (.ref pk), y3, y4, y5, y6] ∧ H' = H ∧ ∀ (s : Nat) (r : List Br), s < i → C[s]? = some r → 0 ≤ gi ks s ∧ (0 < gi ks s → ∀ b ∈ r, z ∈ b.2.1 ∨ (1 ≤ gi ks b.2.2 ∧ gi ks b.2.2 < gi ks s))) ⟨_, _, _, _, rfl, rfl, fun s r h => absurd h (Nat.not_lt_zero _)⟩ ?_ ?_⟩
      · rintro i σ H' hi ⟨y3, y4, y5, y6, rfl, rfl, ih⟩
        rw [Int.toNat_natCast, List.length_map] at hi
        have e0 : (0 : Int) + (i : Int) = (i : Int) := Int.zero_add _
        have ati : atI (ks.map V.int) (0 + (i : Int)) = some (.int (gi ks i)) := by rw [e0]; exact gi_ix hi
        have iC : i < C.length := by omega
        obtain ⟨xr, hxr, dr⟩ := dpA_get hA (rowOf_at iC)
        have er := rowOf_at iC
        generalize rowOf C i = r at hxr dr er
        obtain ⟨okr1, okr2⟩ := ok.row r (List.mem_of_getElem? er)
        obtain ⟨pr, rs, rfl, hpr, hrs⟩ := dp_tup dr
        have atx : atI xs (0 + (i : Int)) = some (.ref pr) := by rw [e0]; exact atI_nat hxr
        refine ⟨_, rfl, _, rfl, pk, _, _, _, rfl, rfl, hk, ati, _, _, rfl, rfl, _, rfl, ite2 (fun h => no _ (Same.refl _) fun rp => ?_) (fun h => ?_)⟩
        · have e1 : gi ks i < 0 := of_decide_eq_true h
          have ek : ks[i]? = some ks[i] := List.getElem?_eq_getElem hi
          have := rp.nn _ (List.getElem_mem hi)
          rw [gi_at ek] at e1
          omega
        have n0 : 0 ≤ gi ks i := by
          have : ¬ gi ks i < 0 := fun e => h (decide_eq_true e)
          omega
        refine ⟨_, rfl, pc, _, _, _, rfl, rfl, hpc, atI_nat (j := 2) rfl, _, rfl, pq, _, _, _, rfl, rfl, hpq, atx, pr, rfl, ⟨_, hpr⟩, for_tup (K := K) (a := pr) (xs := rs) (fun j σ H'' => ∃ (y4 y5 y6 : Option V), σ = [some (.ref pc), some (.str z), some (.ref pk), some (.int (0 + (i : Int))), y4, y5, y6] ∧ H'' = H' ∧ (0 < gi ks i → ∀ b ∈ r.take j, z ∈ b.2.1 ∨ (1 ≤ gi ks b.2.2 ∧ gi ks b.2.2 < gi ks i))) ⟨_, _, _, rfl, rfl, fun _ b h => absurd h List.not_mem_nil⟩ (fun j σ H'' _ ⟨_, _, _, _, e, _⟩ => e ▸ hpr) ?_ ?_⟩
        · rintro j y σ H'' hj ⟨y4, y5, y6, rfl, rfl, jh⟩
          obtain ⟨br, hbr, hy⟩ := dpA_mem hrs hj
          obtain ⟨pb, x0, x1, rfl, hpb, hd0, hd1⟩ := br_at hy
          obtain ⟨p1, rfl, hp1⟩ := sh_at hd1
          have tob := (okr2 br (List.mem_of_getElem? hbr)).1
          have tk := take_snoc hbr
          have next : (0 < gi ks i → z ∈ br.2.1 ∨ (1 ≤ gi ks br.2.2 ∧ gi ks br.2.2 < gi ks i)) → (0 < gi ks i → ∀ b ∈ r.take (j + 1), z ∈ b.2.1 ∨ (1 ≤ gi ks b.2.2 ∧ gi ks b.2.2 < gi ks i)) := fun c p b hb => by
            rw [tk] at hb
            rcases List.mem_append.mp hb with h | h
            · exact jh p b h
            · rw [List.mem_singleton.mp h]
              exact c p
          refine ⟨_, _, rfl, hpb, rfl, _, _, rfl, _, _, rfl, _, _, rfl, rfl, ?_⟩
          refine ⟨_, rfl, _, rfl, pk, _, _, _, rfl, rfl, hk, ati, _, _, rfl, rfl, _, rfl, ite2 (fun c => ?_) (fun c => ?_)⟩
          · have c : 0 < gi ks i := of_decide_eq_true c
            refine ⟨_, rfl, _, rfl, p1, _, rfl, .inr hp1, rfl, flat_strs _, _, rfl, ?_⟩
            rw [inV_str]
            cases hz : decide (z ∈ br.2.1) with
            | true => exact ⟨_, _, _, rfl, rfl, next fun _ => .inl (of_decide_eq_true hz)⟩
            | false =>
              refine ⟨_, rfl, _, rfl, pk, _, _, _, rfl, rfl, hk, gi_ix (by rw [kl]; exact tob), _, _, rfl, rfl, _, rfl, ite2 (fun g => ?_) (fun g => ?_)⟩
              · have g : 1 ≤ gi ks br.2.2 := of_decide_eq_true g
                refine ⟨_, rfl, _, rfl, pk, _, _, _, rfl, rfl, hk, ati, _, _, rfl, rfl, _, _, rfl, rfl, _, rfl, ite2 (fun e => ?_) (fun e => ?_)⟩
                · refine no _ (Same.refl _) fun rp => ?_
                  have nz : z ∉ br.2.1 := of_decide_eq_false hz
                  rcases rp.row i r er c br (List.mem_of_getElem? hbr) with d | ⟨d1, d2⟩
                  · exact nz d
                  · have : ¬ gi ks br.2.2 ≤ gi ks i - 1 := fun x => by
                      rw [decide_eq_true x] at e
                      cases e
                    omega
                · refine ⟨_, _, _, rfl, rfl, next fun _ => .inr ⟨g, ?_⟩⟩
                  have : gi ks br.2.2 ≤ gi ks i - 1 := Classical.byContradiction fun x => e (by rw [decide_eq_false x]; rfl)
                  omega
              · refine ⟨_, rfl, ite2 (fun _ => no _ (Same.refl _) fun rp => ?_) (fun e => absurd rfl e)⟩
                have nz : z ∉ br.2.1 := of_decide_eq_false hz
                rcases rp.row i r er c br (List.mem_of_getElem? hbr) with d | ⟨d1, d2⟩
                · exact nz d
                · exact g (decide_eq_true d1)
          · have c : ¬ 0 < gi ks i := fun z => c (decide_eq_true z)
            exact ⟨_, _, _, rfl, rfl, next fun z => absurd z c⟩
        · rintro σ H'' ⟨y4, y5, y6, rfl, rfl, jh⟩
          have rl := dpA_len hrs
          rw [List.length_map] at rl
          rw [rl, List.take_length] at jh
          refine ⟨_, _, _, _, rfl, rfl, fun s r' hs e => ?_⟩
          by_cases c : s = i
          · subst c
            rw [er] at e
            cases e
            exact ⟨n0, jh⟩
          · exact ih s r' (by omega) e
      · rintro σ H' ⟨y3, y4, y5, y6, rfl, rfl, ih⟩
        rw [Int.toNat_natCast, List.length_map] at ih
        have rp : RkP C z ks := by
          refine ⟨kl, g0, fun k hk => ?_, fun s r e p => (ih s r (by rw [kl]; exact (List.getElem?_eq_some_iff.mp e).1) e).2 p⟩
          obtain ⟨s, hs⟩ := List.getElem?_of_mem hk
          have sl := (List.getElem?_eq_some_iff.mp hs).1
          have := (ih s _ sl (rowOf_at (by omega))).1
          rw [gi_at hs] at this
          exact this
        have := q _ (Same.refl _)
        rw [gB_t rp] at this
        exact this
    · refine ite2 (fun _ => no _ (Same.refl _) fun h => kl h.len) (fun h => absurd ?_ h)
      rw [List.length_map, xl]
      have : V.int (ks.length : Int) ≠ V.int (C.length : Int) := fun z => kl (by have := V.int.inj z; omega)
      simp [this]
end
end Mt
namespace Mt
open PySem PySem.Spec PyProof.Rows L2
/-! ### zip of a list and a tuple -/
def ItzM (K : PySem.W.Frag) (a b : Addr) : It where
  go i H := ∃ us ws : List V, (SqL K H a us ∧ SqT K H b ws) ∧ ∃ p q, us[i]? = some p ∧ ws[i]? = some q
  yld i H v H' := ∃ (N : Addr) (p q : V), H N = none ∧ v = .ref N ∧ H' = upd H N (.tup [p, q]) ∧ (∀ us, SqL K H a us → us[i]? = some p) ∧ ∀ ws, SqT K H b ws → ws[i]? = some q
  stop i H := ∃ us ws : List V, (SqL K H a us ∧ SqT K H b ws) ∧ i ≤ us.length ∧ i ≤ ws.length ∧ (i = us.length ∨ i = ws.length)
def stM (z TI TO i1 i2 a b : Addr) (i : Nat) (h : Heap) : Prop := IsZip h z TI TO .none ∧ IsTupOf2 h TI (.ref i1) (.ref i2) ∧ (∃ x y, IsTupOf2 h TO x y) ∧ h.IsListIter i1 a i ∧ h.IsTupleIter i2 b i
theorem five {α : Type} {q : α → Prop} {c1 c2 c3 c4 c5 : α} (h1 : q c1) (h2 : q c2) (h3 : q c3) (h4 : q c4) (h5 : q c5) : ∀ c ∈ [c1, c2, c3, c4, c5], q c := fun c h => by
  simp only [List.mem_cons, List.not_mem_nil, or_false] at h
  rcases h with rfl | rfl | rfl | rfl | rfl <;> assumption
theorem turn_zipM {P : Program} {w : World} {K : PySem.W.Frag} {elts : List Expr} {kk : Nat} {tpos : Pos} {a b z TI TO i1 i2 : Addr} (S : ZipSep2 z TI TO i1 i2 [i1, a] [i2, b]) :
    Turn P w K (.Tuple elts kk tpos) (ItzM K a b) [z, TI, TO, i1, i2] z (stM z TI TO i1 i2 a b) where
  mem := List.mem_cons_self
  obj i h st := by
    obtain ⟨r1, r2, ⟨_, _, r3⟩, ⟨_, r4, _, d4⟩, _, r5, _, d5⟩ := st
    exact five (q := fun c => ∃ o, h.get? c = some o ∧ ∀ v, o.data ≠ .cell v) ⟨_, r1, fun v => Data.noConfusion⟩ ⟨_, r2, fun v => Data.noConfusion⟩ ⟨_, r3, fun v => Data.noConfusion⟩
      ⟨_, r4, fun v e => by rw [d4] at e; cases e⟩ ⟨_, r5, fun v e => by rw [d5] at e; cases e⟩
  keep i h h' st k := by
    obtain ⟨r1, r2, ⟨_, _, r3⟩, r4, r5⟩ := st
    exact ⟨k _ (by simp) _ r1, k _ (by simp) _ r2, ⟨_, _, k _ (by simp) _ r3⟩, r4.at fun _ => k _ (by simp) _, r5.at fun _ => k _ (by simp) _⟩
  self _ _ _ _ _ st q := wpAny_pyIter_zip st.1 q
  item X hP hw hK hc i pins s σ H E I hf st hg := by
    subst hP hw hK
    obtain ⟨us, ws, ⟨lu, tw⟩, p, q, hp, hq⟩ := hg
    obtain ⟨r1, r2, ⟨_, _, r3⟩, r4, r5⟩ := st
    obtain ⟨ua, rvu, isl, _⟩ := I.list lu
    obtain ⟨wa, rvw, ist, _⟩ := I.tuple tw
    obtain ⟨pu, gu, ru⟩ := rvu.get hp
    obtain ⟨pw, gw, rw'⟩ := rvw.get hq
    have na : a ≠ i1 := fun e => by
      obtain ⟨_, e1, c1, _⟩ := r4
      obtain ⟨_, e2, c2, _⟩ := isl.isList
      rw [e, e1] at e2
      cases e2
      rw [c1] at c2
      simp at c2
    have nb : b ≠ i2 := fun e => by
      obtain ⟨_, e1, c1, _⟩ := r5
      obtain ⟨_, e2, c2, _⟩ := id ist
      rw [e, e1] at e2
      cases e2
      rw [c1] at c2
      simp at c2
    have bu : i < ua.toArray.size := (List.getElem?_eq_some_iff.mp gu).1
    have bw : i < wa.toArray.size := (List.getElem?_eq_some_iff.mp gw).1
    have calm : X.A.in1.handled = none := I.ok.hd hc
    refine wpAny_pyNext_zipD2_item S (Draws.list calm i1 a na ua.toArray) (Draws.tuple calm i2 b nb wa.toArray) r1 r2 r3 ⟨r4, isl.isList⟩ ⟨r5, ist⟩ bu bw fun x1 x2 g tk e1 e2 n1 n2 n3 n4 n5 _ ke => ?_
    have zl : z < s.heap.objs.size := Heap.lt_size r1
    refine ⟨_, rfl, wpAny_letOwnedTupleGo_zip (s := { s with heap := g, toks := tk }) n1 fun g' n1' sb => ?_⟩
    have stay : ∀ c o, c ∉ [z, TI, TO, i1, i2] → s.heap.get? c = some o → g'.get? c = some o := fun c o hn e => by
      simp only [List.mem_cons, List.not_mem_nil, or_false, not_or] at hn
      exact (sb.2 c hn.1).trans (ke c o hn.1 hn.2.2.1 hn.2.2.2.1 hn.2.2.2.2 e)
    rw [show ua.toArray[i]? = some pu by simpa using gu] at e1
    rw [show wa.toArray[i]? = some pw by simpa using gw] at e2
    cases e1
    cases e2
    have made : IsTupOf2 g' s.heap.objs.size pu pw := (sb.2 _ (Nat.ne_of_gt zl)).trans n5
    have I' := I.turnedNew (t' := tk) stay hf (Nat.le_refl _) (ob := .tup [p, q]) ⟨(by decide : 2 ≤ sizeLine), [pu, pw], .cons ru (.cons rw' .nil), _, made, rfl, _, rfl⟩
    have below : ∀ c ∈ [z, TI, TO, i1, i2], c < s.heap.objs.size := by
      obtain ⟨_, l4, _⟩ := r4
      obtain ⟨_, l5, _⟩ := r5
      exact five (q := (· < s.heap.objs.size)) zl (Heap.lt_size r2) (Heap.lt_size r3) (Heap.lt_size l4) (Heap.lt_size l5)
    refine ⟨.ref s.heap.objs.size, _, I', rfl, ⟨_, p, q, I.hok.fresh (Nat.le_refl _), rfl, rfl, fun us' h => I.list_inj lu h ▸ hp, fun ws' h => I.tuple_inj tw h ▸ hq⟩, ⟨n1', ?_, ⟨_, _, (sb.2 _ S.TOz).trans n2⟩, ?_, ?_⟩, fun c hcm => ?_⟩
    · exact (sb.2 _ S.TIz).trans (ke _ _ S.TIz S.TITO S.TIi1 S.TIi2 r2)
    · exact n3.1.at fun o e => (sb.2 _ (Ne.symm S.zi1)).trans e
    · exact n4.1.at fun o e => (sb.2 _ (Ne.symm S.zi2)).trans e
    · rw [upd_ne (Nat.ne_of_lt (below c hcm))]
      exact (hf c hcm).1
  done X hP hw hK hc i pins s σ H E I hf st hg := by
    subst hP hw hK
    obtain ⟨us, ws, ⟨lu, tw⟩, m1, m2, m3⟩ := hg
    obtain ⟨r1, r2, ⟨_, _, r3⟩, r4, r5⟩ := st
    obtain ⟨ua, rvu, isl, _⟩ := I.list lu
    obtain ⟨wa, rvw, ist, _⟩ := I.tuple tw
    have calm : X.A.in1.handled = none := I.ok.hd hc
    have na : a ≠ i1 := fun e => by
      obtain ⟨_, e1, c1, _⟩ := r4
      obtain ⟨_, e2, c2, _⟩ := isl.isList
      rw [e, e1] at e2
      cases e2
      rw [c1] at c2
      simp at c2
    have nb : b ≠ i2 := fun e => by
      obtain ⟨_, e1, c1, _⟩ := r5
      obtain ⟨_, e2, c2, _⟩ := id ist
      rw [e, e1] at e2
      cases e2
      rw [c1] at c2
      simp at c2
    have z1 : ua.toArray.size = us.length := by simpa using rvu.length.symm
    have z2 : wa.toArray.size = ws.length := by simpa using rvw.length.symm
    have fin : i = ua.toArray.size ∨ i = wa.toArray.size := by rw [z1, z2]; exact m3
    refine wpAny_pyNext_zipD2_end S (Draws.list calm i1 a na ua.toArray) (Draws.tuple calm i2 b nb wa.toArray) r1 r2 r3 ⟨r4, isl.isList⟩ ⟨r5, ist⟩ (by rw [z1]; exact m1) (by rw [z2]; exact m2) fin fun g tk ke => ⟨rfl, ?_⟩
    refine I.turnedL (t' := tk) (fun c o hn e => ?_) hf
    simp only [List.mem_cons, List.not_mem_nil, or_false, not_or] at hn
    exact ke c o hn.1 hn.2.2.1 hn.2.2.2.1 hn.2.2.2.2 e
theorem sepM {N a b : Nat} (ha : a < N) (hb : b < N) : ZipSep2 (N + 4) (N + 2) (N + 3) N (N + 1) [N, a] [N + 1, b] := by
  have e : ∀ {x y : Nat}, x ≠ y → ∀ {z : Nat}, x ≠ z → ¬ x ∈ ([y, z] : List Nat) := fun h _ k m => by
    rcases List.mem_cons.mp m with r | r
    · exact h r
    · exact k (List.mem_singleton.mp r)
  constructor <;> first
    | exact List.mem_cons_self
    | (refine e ?_ ?_ <;> show ¬ ((_ : Nat) = _) <;> omega)
    | (show ¬ ((_ : Nat) = _); omega)
/-- iter(zip(a list, a tuple)) -/
def iZipM (K : PySem.W.Frag) (ta : TA) : TI := fun σ H R => ta σ H fun vs H1 => ∃ (a b : Addr) (us ws : List V), vs = [.ref a, .ref b] ∧ (SqL K H1 a us ∧ SqT K H1 b ws) ∧ R (ItzM K a b) H1
theorem pi_zipM {X : Cx} {x y : Expr} {ta : TA} {p pos tpos : Pos} {elts : List Expr} {kk : Nat} (hg : Gl X "zip") (hm : X.mg "zip" = none) (ha : L2.PA X [x, y] ta)
    (h1 : starEach [x, y] X.env = (false, eval x X.env) :: starEach [y] X.env := by rfl) (h2 : (backTo pos (starEach [y] X.env)).any (·.1) = false := by rfl) :
    PI X (.Tuple elts kk tpos) (.Call (.Name "zip" p) [x, y] [] pos) (iZipM X.K ta) where
  run pins s σ H R I h := by
    refine Call_ (ld_blt I hg hm PyProof.Rows.boot_zip (PyProof.Rows.callWith_type1 (thn (ha.run pos pins s σ H _ I h) ?_) h1 h2))
    rintro us s1 ⟨vs, H1, I1, rel, a, b, xs, ys, rfl, ⟨lu, tw⟩, go⟩
    obtain ⟨ua, _, isl, _⟩ := I1.list lu
    obtain ⟨wa, _, ist, _⟩ := I1.tuple tw
    obtain _ | ⟨ra, _ | ⟨rb, _ | _⟩⟩ := rel
    cases ra
    cases rb
    have lb : b < s1.heap.objs.size := let ⟨_, e, _⟩ := ist; Heap.lt_size e
    refine zip_begins2 (begins_list a ua.toArray) (begins_tuple b wa.toArray) isl.isList ist fun g g1 g2 g3 g4 g5 g6 ke => wpAny_pyIter_zip g1 ?_
    refine ⟨s1.heap.objs.size + 4, [s1.heap.objs.size + 4, s1.heap.objs.size + 2, s1.heap.objs.size + 3, s1.heap.objs.size, s1.heap.objs.size + 1], _, _, H1, rfl, I1.kept (t' := s1.toks) ke, turn_zipM (sepM isl.lt lb), ⟨g1, g2, ⟨_, _, g3⟩, ⟨_, g4, rfl, rfl⟩, ⟨_, g5, rfl, rfl⟩⟩, ?_, go⟩
    · have new : ∀ k : Nat, FpOk X pins H1 (s1.heap.objs.size + k) := fun k => I1.fpOk (Nat.le_add_right _ _) (I1.hok.fresh (Nat.le_add_right _ _))
      exact five (new 4) (new 2) (new 3) (new 0) (new 1)
theorem walk_zipM {K : PySem.W.Frag} {a b : Addr} {us ws : List V} {n : Nat} (h1 : us.length = n) (h2 : ws.length = n) : Walk (ItzM K a b) n (fun H => SqL K H a us ∧ SqT K H b ws) (YPair (fun i => us[i]?) (fun i => ws[i]?)) := by
  refine ⟨fun i H hi q => ?_, fun H q => ⟨us, ws, q, by omega, by omega, .inl h1.symm⟩, fun i H v H' _ q y => ?_⟩
  · exact ⟨us, ws, q, us[i], ws[i], List.getElem?_eq_getElem (by omega), List.getElem?_eq_getElem (by omega)⟩
  · obtain ⟨N, p, r, h1, h2, h3, h4, h5⟩ := y
    exact ⟨N, p, r, h2, h1, h3, h4 us q.1, h5 ws q.2⟩
end Mt
namespace Mt
open PySem PySem.Spec PyProof.Rows L2
def lessB (a b : F2) : Bool := decide (a.1 * b.2 < b.1 * a.2)
def dO : Option F2 → PyData
  | none => .none
  | some f => dF f
def dPots (pots : List (Option F2)) : PyData := .tuple (pots.map dO)
def gp (pots : List (Option F2)) (i : Nat) : Option F2 := match pots[i]? with
  | some (some f) => some f
  | _ => none
def PotOk (pots : List (Option F2)) : Prop := ∀ f, some f ∈ pots → Low f ∧ Sz 1000 f
theorem gp_mem {pots : List (Option F2)} {i : Nat} {f : F2} (h : gp pots i = some f) : some f ∈ pots := by
  unfold gp at h
  split at h
  · rename_i g e
    cases h
    exact List.mem_of_getElem? e
  · cases h
theorem gp_some {pots : List (Option F2)} {i : Nat} {f : F2} : gp pots i = some f ↔ pots[i]? = some (some f) := by
  unfold gp
  rcases pots[i]? with _ | _ | g <;> simp
def PotAt (K : PySem.W.Frag) (H : Hp) (x : V) : Option F2 → Prop
  | none => x = .non
  | some f => ∃ p, x = .ref p ∧ SqT K H p (tupV f)
theorem f2_at {K : PySem.W.Frag} {H : Hp} {v : V} {f : F2} (h : Dp K H v (dF f)) : ∃ p, v = .ref p ∧ SqT K H p (tupV f) := by
  obtain ⟨p, xs, rfl, hp, hx⟩ := dp_tup h
  obtain ⟨x, r, rfl, h1, hr⟩ := dpA_cons hx
  obtain ⟨y, r, rfl, h2, hr⟩ := dpA_cons hr
  rw [dp_int h1, dp_int h2, dpA_nil hr] at hp
  exact ⟨p, rfl, hp⟩
theorem pot_at {K : PySem.W.Frag} {H : Hp} {pots : List (Option F2)} {xs : List V} {i : Nat} (h : DpAll K H xs (pots.map dO)) (hi : i < pots.length) : ∃ x, xs[i]? = some x ∧ PotAt K H x (gp pots i) := by
  obtain ⟨x, hx, hd⟩ := dpA_get h (List.getElem?_eq_getElem hi)
  refine ⟨x, hx, ?_⟩
  have e : gp pots i = pots[i] := by
    unfold gp
    rw [List.getElem?_eq_getElem hi]
    cases pots[i] <;> rfl
  rw [e]
  cases hq : pots[i] with
  | none =>
    rw [hq] at hd
    exact dp_non hd
  | some f =>
    rw [hq] at hd
    exact f2_at hd
theorem PotAt.same {K : PySem.W.Frag} {H H' : Hp} {x : V} {o : Option F2} (s : Same H H') (h : PotAt K H x o) : PotAt K H' x o := by
  cases o with
  | none => exact h
  | some f => exact let ⟨p, e, q⟩ := h; ⟨p, e, same_t s q⟩
def okE (most : F2) (pots : List (Option F2)) (e : Int × Nat) : Bool := match gp pots e.2 with
  | none => false
  | some ah => !lessB most (frp (add2 (e.1, 1) ah))
def boundE (pace : F2) (pots : List (Option F2)) (f : F2) (r : List (Int × Nat)) : Bool := r.all (okE (frp (add2 pace f)) pots)
def boundB (W : List (Str × Int)) (pace : F2) (pots : List (Option F2)) (f : F2) (r : List Br) : Bool := boundE pace pots f (wRow W r)
def spLess (K : PySem.W.Frag) : Sp := fun vs H Q _ => ∃ (p q : Addr) (a b : F2), vs = [.ref p, .ref q] ∧ SqT K H p (tupV a) ∧ SqT K H q (tupV b) ∧ Sz 4400 a ∧ Sz 4400 b ∧ Q (.bl (lessB a b)) H
structure RowE (pots : List (Option F2)) (r : List (Int × Nat)) : Prop where
  few : r.length ≤ 20
  to : ∀ e ∈ r, e.2 < pots.length ∧ e.1.natAbs < 2 ^ 20
def spBound (K : PySem.W.Frag) : Sp := fun vs H Q _ => ∃ (vr vp : V) (ps pf : Addr) (pace f : F2) (pots : List (Option F2)) (r : List (Int × Nat)), vs = [vr, .ref ps, vp, .ref pf] ∧ Dp K H vr (dWRow r) ∧ SqT K H ps (tupV pace) ∧ Low pace ∧ Sz 1000 pace ∧ Dp K H vp (dPots pots) ∧ PotOk pots ∧ SqT K H pf (tupV f) ∧ Low f ∧ Sz 1000 f ∧ RowE pots r ∧
  ∀ H', Same H H' → Q (.bl (boundE pace pots f r)) H'
theorem all_snoc {α : Type} {l : List α} {i : Nat} {x : α} {q : α → Bool} (h : l[i]? = some x) (a : (l.take i).all q = true) (b : q x = true) : (l.take (i + 1)).all q = true := by
  rw [take_snoc h, List.all_append, a]
  simp [b]
theorem all_not {α : Type} {l : List α} {i : Nat} {x : α} {q : α → Bool} (h : l[i]? = some x) (b : q x = false) : l.all q = false := by
  rw [List.all_eq_false]
  exact ⟨x, List.mem_of_getElem? h, by rw [b]; decide⟩
theorem sq_new {K : PySem.W.Frag} {H : Hp} {p : Addr} {f : F2} : SqT K (upd H p (tupF f)) p (tupV f) := SqT.of upd_same
theorem w1 (w : Int) (h : w.natAbs < 2 ^ 20) : Low (w, 1) ∧ Sz 20 (w, 1) := ⟨⟨Int.le_refl 1, Nat.gcd_one_right _⟩, h, (by decide : (1 : Nat) < 2 ^ 20)⟩
theorem e_at {K : PySem.W.Frag} {H : Hp} {v : V} {e : Int × Nat} (h : Dp K H v (dE e)) : ∃ p, v = .ref p ∧ SqT K H p [.int e.1, .int (e.2 : Int)] := by
  obtain ⟨p, xs, rfl, hp, hx⟩ := dp_tup h
  obtain ⟨x, r, rfl, h1, hr⟩ := dpA_cons hx
  obtain ⟨y, r, rfl, h2, hr⟩ := dpA_cons hr
  rw [dp_int h1, dp_int h2, dpA_nil hr] at hp
  exact ⟨p, rfl, hp⟩
section
variable {P : Program} {w : World} {K : PySem.W.Frag} {mg : Str → Option Value} {base : Heap}
theorem ok_is_less (T : Txt K mg) {f : Addr} {fd : FuncData} (F : FnP K "is_less" s_is_less f fd) : FnOk P w K mg base CX0 1 f fd ["a", "b"] (spLess K) := by
  refine F.ok sc_is_less (fun vs H Q E h => ?_) (fun cdv A outer s H vs Q E hr h => ?_)
  · obtain ⟨p, p2, a, b, rfl, _⟩ := h
    rfl
  · obtain ⟨p, p2, a, b, rfl, hp, hp2, za, zb, q⟩ := h
    refine ⟨_, PSs.nox (pss_one (ps_ret (pe_cmpR op_lt (pe_op op_mulW (pe_ix ix_tup (pv 0) pe_int (fun _ _ => rfl)) (pe_ix ix_tup (pv 1) pe_int (fun _ _ => rfl))) (pe_op op_mulW (pe_ix ix_tup (pv 1) pe_int (fun _ _ => rfl)) (pe_ix ix_tup (pv 0) pe_int (fun _ _ => rfl))) (nomark _)))), ?_⟩
    exact ⟨_, rfl, p, _, _, _, rfl, rfl, hp, atI_nat (j := 0) rfl, _, rfl, p2, _, _, _, rfl, rfl, hp2, atI_nat (j := 1) rfl, _, _, rfl, rfl, wide_mul za.1 zb.2 (by decide) (by decide) (by decide), _, rfl, p2, _, _, _, rfl, rfl, hp2, atI_nat (j := 0) rfl, _, rfl, p, _, _, _, rfl, rfl, hp, atI_nat (j := 1) rfl, _, _, rfl, rfl, wide_mul zb.1 za.2 (by decide) (by decide) (by decide), _, _, rfl, rfl, q⟩
theorem ok__law_less (T : Txt K mg) {f : Addr} {fd : FuncData} (F : FnP K "_law_less" s__law_less f fd) : FnOk P w K mg base CX0 1 f fd ["a", "b"] (spLess K) := by
  refine F.ok sc__law_less (fun vs H Q E h => ?_) (fun cdv A outer s H vs Q E hr h => ?_)
  · obtain ⟨p, p2, a, b, rfl, _⟩ := h
    rfl
  · obtain ⟨p, p2, a, b, rfl, hp, hp2, za, zb, q⟩ := h
    refine ⟨_, PSs.nox (pss_one (ps_ret (pe_cmpR op_lt (pe_op op_mulW (pe_ix ix_tup (pv 0) pe_int (fun _ _ => rfl)) (pe_ix ix_tup (pv 1) pe_int (fun _ _ => rfl))) (pe_op op_mulW (pe_ix ix_tup (pv 1) pe_int (fun _ _ => rfl)) (pe_ix ix_tup (pv 0) pe_int (fun _ _ => rfl))) (nomark _)))), ?_⟩
    exact ⟨_, rfl, p, _, _, _, rfl, rfl, hp, atI_nat (j := 0) rfl, _, rfl, p2, _, _, _, rfl, rfl, hp2, atI_nat (j := 1) rfl, _, _, rfl, rfl, wide_mul za.1 zb.2 (by decide) (by decide) (by decide), _, rfl, p2, _, _, _, rfl, rfl, hp2, atI_nat (j := 0) rfl, _, rfl, p, _, _, _, rfl, rfl, hp, atI_nat (j := 1) rfl, _, _, rfl, rfl, wide_mul zb.1 za.2 (by decide) (by decide) (by decide), _, _, rfl, rfl, q⟩
set_option maxHeartbeats 1000000 in
theorem ok_is_bound (T : Txt K mg) (D_sum_of : Kept P w K mg base 2 "sum_of" ["a", "b"] (spBin K add2)) (D_is_less : Kept P w K mg base 1 "is_less" ["a", "b"] (spLess K)) {f : Addr} {fd : FuncData} (F : FnP K "is_bound" s_is_bound f fd) : FnOk P w K mg base CX0 3 f fd ["row", "speed", "potentials", "potential"] (spBound K) := by
  refine F.ok sc_is_bound (fun vs H Q E h => ?_) (fun cdv A outer s H vs Q E hr h => ?_)
  · obtain ⟨vr, vp, ps, pf, pace, f, pots, r, rfl, _⟩ := h
    rfl
  · obtain ⟨vr, vp, ps, pf, pace, f, pots, r, rfl, hR, hps, lp, zp, hP, okP, hpf, lf, zf, okr, q⟩ := h
    refine ⟨_, PSs.nox (pss_cons (ps_set (i := 4) sc_is_bound.nd rfl (Or.inl rfl) (pe_d D_sum_of (hr.mono (by decide)) (by rfl) (pa_cons (pv 1) (pa_cons (pv 3) pa_nil))))
      (pss_cons (ps_for PassesOwn.never rfl (pi_list (pv 0)) (pg_tup rfl (pgs_cons (pg_name (i := 5) sc_is_bound.nd rfl (Or.inl rfl)) (pgs_cons (pg_name (i := 6) sc_is_bound.nd rfl (Or.inl rfl)) pgs_nil))) (pss_cons (ps_set (i := 7) sc_is_bound.nd rfl (Or.inl rfl) (pe_ix ix_tup (pv 2) (pv 6) (fun _ _ => rfl)))
      (pss_one (ps_if (PW.pt (pw_or (pt_cmpR op_isN (pv 7) pe_non (nomark _)) (pw_or1 (pt_val (pe_d D_is_less (hr.mono (by decide)) (by rfl) (pa_cons (pv 4) (pa_cons (pe_d D_sum_of (hr.mono (by decide)) (by rfl) (pa_cons (pe_tup (pa_cons (pv 5) (pa_cons pe_int pa_nil))) (pa_cons (pv 7) pa_nil))) pa_nil))))))) (pss_one (ps_ret pe_bl)) pss_nil))))
      (pss_one (ps_ret pe_bl)))), ?_⟩
    obtain ⟨pR, rs, rfl, hpR, hrs⟩ := dp_lst hR
    obtain ⟨pp, xs, rfl, hpp, hxs⟩ := dp_tup hP
    have rl := dpA_len hrs
    rw [List.length_map] at rl
    have few := okr.few
    refine ⟨_, rfl, _, rfl, ps, pf, pace, f, rfl, hps, hpf, sz_up zp (by decide), sz_up zf (by decide), add2_ne lp lf, fun m hm => ?_⟩
    have s1 := same_new (o := tupF (frp (add2 pace f))) hm
    have hm1 := sq_new (K := K) (H := H) (p := m) (f := frp (add2 pace f))
    have lm : Low (frp (add2 pace f)) := low_frp (add2_ne lp lf)
    have zm : Sz 2001 (frp (add2 pace f)) := fr_sz (add2_sz zp zf)
    have be : boundE pace pots f r = r.all (okE (frp (add2 pace f)) pots) := rfl
    rw [be] at q
    generalize frp (add2 pace f) = most at s1 hm1 lm zm q
    generalize upd H m (tupF most) = H1 at s1 hm1
    refine ⟨_, rfl, pR, rfl, ⟨_, same_l s1 hpR⟩, for_list (K := K) (a := pR) (xs := rs) (fun j σ H' => ∃ (y5 y6 y7 : Option V), σ = [some (.ref pR), some (.ref ps), some (.ref pp), some (.ref pf), some (.ref m), y5, y6, y7] ∧ Same H1 H' ∧ (r.take j).all (okE most pots) = true) ⟨_, _, _, rfl, Same.refl _, rfl⟩ (fun j σ H' _ ⟨_, _, _, _, s, _⟩ => same_l (s1.trans s) hpR) ?_ ?_⟩
    · rintro j y σ H2 hj ⟨y5, y6, y7, rfl, s2, ih⟩
      obtain ⟨e, he, hy⟩ := dpA_mem (dpA_same (s1.trans s2) _ _ hrs) hj
      obtain ⟨te, rfl, hte⟩ := e_at hy
      have ee := List.mem_of_getElem? he
      obtain ⟨x, hx, px⟩ := pot_at (dpA_same (s1.trans s2) _ _ hxs) (okr.to e ee).1
      refine ⟨_, _, rfl, hte, rfl, _, _, rfl, _, _, rfl, rfl, ?_⟩
      refine ⟨_, rfl, _, rfl, pp, _, _, _, rfl, rfl, same_t (s1.trans s2) hpp, atI_nat hx, ?_⟩
      have no : okE most pots e = false → ∀ H', Same H2 H' → Q (.bl false) H' := fun h H' s => by
        have := q _ ((s1.trans s2).trans s)
        rw [all_not he h] at this
        exact this
      cases hg : gp pots e.2 with
      | none =>
        rw [hg] at px
        obtain rfl : x = .non := px
        refine ⟨_, rfl, rfl, _, rfl, ite2 (fun _ => ite2 (fun _ => ?_) (fun h => absurd rfl h)) (fun h => absurd rfl h)⟩
        refine no ?_ _ (Same.refl _)
        unfold okE
        rw [hg]
      | some ah =>
        rw [hg] at px
        obtain ⟨pa, rfl, hpa⟩ := px
        obtain ⟨la, za⟩ := okP ah (gp_mem hg)
        obtain ⟨lw, zw⟩ := w1 e.1 (okr.to e ee).2
        refine ⟨_, rfl, rfl, _, rfl, ite2 (fun h => (nomatch (show false = true from h))) (fun _ => ?_)⟩
        refine ⟨_, rfl, _, rfl, z2, fun N hN => ?_⟩
        have s3 := same_new (o := .tup [.int e.1, .int 1]) hN
        refine ⟨_, rfl, N, pa, (e.1, 1), ah, rfl, SqT.of upd_same, same_t s3 hpa, sz_up zw (by decide), sz_up za (by decide), add2_ne lw la, fun M hM => ?_⟩
        have s4 := same_new (o := tupF (frp (add2 (e.1, 1) ah))) hM
        refine ⟨m, M, most, _, rfl, same_t (s2.trans (s3.trans s4)) hm1, sq_new, sz_up zm (by decide), sz_up (fr_sz (add2_sz zw za)) (by decide), ?_⟩
        cases hl : lessB most (frp (add2 (e.1, 1) ah)) with
        | true =>
          refine ⟨_, rfl, ite2 (fun _ => ?_) (fun h => absurd rfl h)⟩
          refine no ?_ _ (s3.trans s4)
          unfold okE
          rw [hg]
          show (!lessB most (frp (add2 (e.1, 1) ah))) = false
          rw [hl]
          rfl
        | false =>
          refine ⟨_, rfl, ite2 (fun h => (nomatch (show false = true from h))) (fun _ => ?_)⟩
          refine ⟨_, _, _, rfl, s2.trans (s3.trans s4), all_snoc he ih ?_⟩
          unfold okE
          rw [hg]
          show (!lessB most (frp (add2 (e.1, 1) ah))) = true
          rw [hl]
          rfl
    · rintro σ H2 ⟨y5, y6, y7, rfl, s2, ih⟩
      rw [rl, List.take_length] at ih
      rw [ih] at q
      exact q _ (s1.trans s2)
end
end Mt
namespace Mt
open PySem PySem.Spec PyProof.Rows L2
structure TakeP (C : Chn) (W : List (Str × Int)) (pace : F2) (pots : List (Option F2)) (way ring : List (List Int)) : Prop where
  len : pots.length = C.length
  zero : ∃ f, gp pots 0 = some f
  row : ∀ (s : Nat) (r : List Br) (f : F2), C[s]? = some r → gp pots s = some f → boundB W pace pots f r = true
  ring : ∃ l m, ringB C way ring = some (l, m) ∧ frp (mul2 pace ((ring.length : Int), 1)) = (wsum W m, 1)
/-- a paper with words of no more than so many -/
structure PapOk (pace : F2) (pots : List (Option F2)) (way ring : List (List Int)) : Prop where
  low : Low pace
  sz : Sz 1000 pace
  pot : PotOk pots
  l0 : pots.length ≤ 100
  l1 : way.length ≤ 1000
  l2 : ring.length ≤ 1000
def dPap (pace : F2) (pots : List (Option F2)) (way ring : List (List Int)) : PyData := .tuple [dF pace, dPots pots, dWs way, dWs ring]
theorem dF_dI (a : F2) : dF a = dI [a.1, a.2] := rfl
theorem eqv_F (a b : F2) : PyData.eqv (dF a) (dF b) = decide (a = b) := by
  rw [dF_dI, dF_dI, eqv_I]
  refine decide_eq_decide.mpr ?_
  constructor
  · intro h
    simp only [List.cons.injEq, and_true] at h
    exact Prod.ext h.1 h.2
  · intro h
    rw [h]
theorem look_le {W : List (Str × Int)} (h : ∀ e ∈ W, e.2.natAbs ≤ 99) (z : Str) : (look W z).natAbs ≤ 99 := by
  unfold look
  cases e : W.find? fun e => decide (e.1 = z) with
  | none => exact Nat.zero_le _
  | some x => exact h x (List.mem_of_find?_eq_some e)
theorem wv_le {W : List (Str × Int)} (h : ∀ e ∈ W, e.2.natAbs ≤ 99) : ∀ ss : List Str, (wv W ss).natAbs ≤ 99 * ss.length
  | [] => Nat.le_refl _
  | a :: r => by
    have h1 : wv W (a :: r) = look W a + wv W r := rfl
    rw [h1, List.length_cons]
    have h2 := look_le h a
    have h3 := wv_le h r
    have h4 := Int.natAbs_add_le (look W a) (wv W r)
    omega
theorem wsum_le {W : List (Str × Int)} (h : ∀ e ∈ W, e.2.natAbs ≤ 99) : ∀ l : List Br, (∀ b ∈ l, b.2.1.length ≤ 6) → (wsum W l).natAbs ≤ 594 * l.length
  | [], _ => Nat.le_refl _
  | a :: r, hl => by
    have h1 : wsum W (a :: r) = wv W a.2.1 + wsum W r := rfl
    rw [h1, List.length_cons]
    have h2 := wv_le h a.2.1
    have h3 := wsum_le h r fun b hb => hl b (List.mem_cons_of_mem _ hb)
    have h4 := Int.natAbs_add_le (wv W a.2.1) (wsum W r)
    have h5 := hl a List.mem_cons_self
    omega
theorem rowE {C : Chn} {W : List (Str × Int)} {pots : List (Option F2)} (ok : ChS C) (hW : ∀ e ∈ W, e.2.natAbs ≤ 99) (hl : pots.length = C.length) {r : List Br} (hr : r ∈ C) : RowE pots (wRow W r) := by
  obtain ⟨h1, h2⟩ := ok.row r hr
  refine ⟨by unfold wRow; rw [List.length_map]; exact h1, fun e he => ?_⟩
  obtain ⟨b, hb, rfl⟩ := List.mem_map.mp he
  obtain ⟨h3, h4⟩ := h2 b hb
  refine ⟨by rw [hl]; exact h3, ?_⟩
  have := wv_le hW b.2.1
  show (wv W b.2.1).natAbs < 2 ^ 20
  omega
def spJRate (K : PySem.W.Frag) : Sp := fun vs H Q _ => ∃ (vc vw vp : V) (base : Int) (C : Chn) (W : List (Str × Int)) (pace : F2) (pots : List (Option F2)) (way ring : List (List Int)), vs = [vc, vw, vp] ∧ Dp K H vc (dChn base C) ∧ ChnOk base C ∧ WAt K H vw W ∧ (W.map (·.1)).Nodup ∧ W.length ≤ 1000 ∧ (∀ e ∈ W, e.2.natAbs ≤ 99) ∧
  Dp K H vp (dPap pace pots way ring) ∧ PapOk pace pots way ring ∧ ∀ H', Same H H' → Q (.bl (gB (TakeP C W pace pots way ring))) H'
theorem ringB_ok {C : Chn} (ok : ChS C) (c0 : 0 < C.length) {way ring : List (List Int)} {l m : List Br} (h : ringB C way ring = some (l, m)) : l.length = way.length ∧ m.length = ring.length ∧ ∀ b ∈ l ++ m, b.2.1.length ≤ 6 := by
  unfold ringB at h
  cases hal : alongB C 0 way with
  | none =>
    rw [hal] at h
    cases h
  | some l' =>
    rw [hal] at h
    obtain ⟨st, e1, b1⟩ := along_ok ok c0 hal
    have h : (if ring = [] then none else match alongB C (stA 0 l') ring with | none => none | some m => if stA (stA 0 l') m = stA 0 l' then some (l', m) else none) = some (l, m) := h
    split at h
    · cases h
    · cases har : alongB C (stA 0 l') ring with
      | none =>
        rw [har] at h
        cases h
      | some m' =>
        rw [har] at h
        obtain ⟨_, e2, b2⟩ := along_ok ok st har
        have h : (if stA (stA 0 l') m' = stA 0 l' then some (l', m') else none) = some (l, m) := h
        split at h
        · cases h
          exact ⟨e1, e2, fun b hb => (List.mem_append.mp hb).elim (b1 b) (b2 b)⟩
        · cases h
section
variable {P : Program} {w : World} {K : PySem.W.Frag} {mg : Str → Option Value} {base : Heap}
set_option maxHeartbeats 1000000 in
theorem ok_judge_rate (T : Txt K mg) (D_ring_along : Kept P w K mg base 2 "ring_along" ["rows", "way", "ring"] (spRAlongG K)) (D_product_of : Kept P w K mg base 2 "product_of" ["a", "b"] (spBin K mul2)) (D_worth_of : Kept P w K mg base 1 "worth_of" ["worths", "shown"] (spWorthOf K)) (D_worth_rows : Kept P w K mg base 2 "worth_rows" ["chain", "worths"] (spWRows K)) (D_is_bound : Kept P w K mg base 3 "is_bound" ["row", "speed", "potentials", "potential"] (spBound K)) {f : Addr} {fd : FuncData} (F : FnP K "judge_rate" s_judge_rate f fd) : FnOk P w K mg base CX0 4 f fd ["chain", "worths", "paper"] (spJRate K) := by
  refine F.ok sc_judge_rate (fun vs H Q E h => ?_) (fun cdv A outer s H vs Q E hr h => ?_)
  · obtain ⟨vc, vw, vp, b, C, W, pace, pots, way, ring, rfl, _⟩ := h
    rfl
  · obtain ⟨vc, vw, vp, b, C, W, pace, pots, way, ring, rfl, hC, okC, hw, nd, wl, hW, hP, ok, q⟩ := h
    refine ⟨_, PSs.nox (pss_cons (ps_asg (pv 2) (pg_tup rfl (pgs_cons (pg_name (i := 3) sc_judge_rate.nd rfl (Or.inl rfl)) (pgs_cons (pg_name (i := 4) sc_judge_rate.nd rfl (Or.inl rfl)) (pgs_cons (pg_name (i := 5) sc_judge_rate.nd rfl (Or.inl rfl)) (pgs_cons (pg_name (i := 6) sc_judge_rate.nd rfl (Or.inl rfl)) pgs_nil))))))
      (pss_cons (ps_set (i := 7) sc_judge_rate.nd rfl (Or.inl rfl) (pe_d D_worth_rows (hr.mono (by decide)) (by rfl) (pa_cons (pv 0) (pa_cons (pv 1) pa_nil))))
      (pss_cons (ps_if (PW.pt (pw_or (pt_cmpR op_ne (pe_callB call_len (by rfl) T.b_len (by decide +kernel) (pa_cons (pv 4) pa_nil)) (pe_callB call_len (by rfl) T.b_len (by decide +kernel) (pa_cons (pv 7) pa_nil)) (nomark _)) (pw_or1 (pt_cmpR op_isN (pe_ix ix_tup (pv 4) pe_int (fun _ _ => rfl)) pe_non (nomark _))))) (pss_one (ps_ret pe_bl)) pss_nil)
      (pss_cons (ps_for PassesOwn.never rfl (pi_zipM (by rfl) T.b_zip (pa_cons (pv 7) (pa_cons (pv 4) pa_nil))) (pg_tup rfl (pgs_cons (pg_name (i := 8) sc_judge_rate.nd rfl (Or.inl rfl)) (pgs_cons (pg_name (i := 9) sc_judge_rate.nd rfl (Or.inl rfl)) pgs_nil))) (pss_one (ps_if (PW.pt (pw_and (pt_cmpR op_notN (pv 9) pe_non (nomark _)) (pw_and1 (pt_not (pt_val (pe_d D_is_bound (hr.mono (by decide)) (by rfl) (pa_cons (pv 8) (pa_cons (pv 3) (pa_cons (pv 4) (pa_cons (pv 9) pa_nil)))))))))) (pss_one (ps_ret pe_bl)) pss_nil)))
      (pss_cons (ps_set (i := 10) sc_judge_rate.nd rfl (Or.inl rfl) (pe_d D_ring_along (hr.mono (by decide)) (by rfl) (pa_cons (pe_ix ix_tup (pv 0) pe_int (fun _ _ => rfl)) (pa_cons (pv 5) (pa_cons (pv 6) pa_nil)))))
      (pss_cons (ps_if (pt_cmpR op_isN (pv 10) pe_non (nomark _)) (pss_one (ps_ret pe_bl)) pss_nil)
      (pss_cons (ps_set (i := 11) sc_judge_rate.nd rfl (Or.inl rfl) (pe_callB (cr_sum rfl) (by rfl) T.b_sum (by decide +kernel) (pa_cons (pe_lc (own := [("branch", 12)]) (g := (gName 12)) (tt := tYes) rfl sc_judge_rate.nd (pi_list (pe_ix ix_tup (pv 10) pe_int (fun _ _ => rfl))) (blkOk_by (N := N_judge_rate) (sc := defScope s_judge_rate) (by decide +kernel)) (fun _ _ _ _ _ => (pg_name (i := 12) sc_judge_rate.nd rfl (Or.inl rfl))) (fun _ _ _ _ _ => pts_nil) (fun _ _ _ _ _ => (pe_d D_worth_of (hr.mono (by decide)) (by rfl) (pa_cons (pv 1) (pa_cons (pe_ix (ixT (K := K) rfl) (pv 12) pe_int (fun _ _ => rfl)) pa_nil))))) pa_nil)))
      (pss_one (ps_ret (pe_cmpR (op_eqD (hr.units)) (pe_d D_product_of (hr.mono (by decide)) (by rfl) (pa_cons (pv 3) (pa_cons (pe_tup (pa_cons (pe_callB call_len (by rfl) T.b_len (by decide +kernel) (pa_cons (pv 6) pa_nil)) (pa_cons pe_int pa_nil))) pa_nil))) (pe_tup (pa_cons (pv 11) (pa_cons pe_int pa_nil))) (nomark _))))))))))), ?_⟩
    have no : ∀ H', Same H H' → ¬ TakeP C W pace pots way ring → Q (.bl false) H' := fun H' s h => by
      have := q _ s
      rw [gB_f h] at this
      exact this
    obtain ⟨pp, us, rfl, hpp, hus⟩ := dp_tup hP
    obtain ⟨x0, _, rfl, hx0, hus⟩ := dpA_cons hus
    obtain ⟨x1, _, rfl, hx1, hus⟩ := dpA_cons hus
    obtain ⟨x2, _, rfl, hx2, hus⟩ := dpA_cons hus
    obtain ⟨x3, _, rfl, hx3, hus⟩ := dpA_cons hus
    cases dpA_nil hus
    obtain ⟨p0, rfl, hp0⟩ := f2_at hx0
    obtain ⟨p1, xs, rfl, hp1, hxs⟩ := dp_tup hx1
    have xl := dpA_len hxs
    rw [List.length_map] at xl
    have few := okC.few
    have l0 := ok.l0
    refine ⟨_, rfl, _, _, rfl, hpp, rfl, _, _, rfl, _, _, rfl, _, _, rfl, _, _, rfl, rfl, ?_⟩
    refine ⟨_, rfl, _, rfl, vc, vw, b, C, W, rfl, hC, okC, hw, nd, wl, fun H1 v s1 hv => ?_⟩
    obtain ⟨LR, rs, rfl, hLR, hrs⟩ := dp_lst hv
    have rl := dpA_len hrs
    rw [List.length_map, List.length_map] at rl
    refine ⟨_, rfl, _, _, rfl, .inr ⟨_, same_t s1 hp1, rfl⟩, _, rfl, _, _, rfl, .inl ⟨_, hLR, rfl⟩, rfl, _, rfl, ?_⟩
    rw [rl, xl]
    by_cases kl : pots.length = C.length
    · rw [kl]
      refine ite2 (fun h => absurd h (by simp)) (fun _ => ?_)
      obtain ⟨y0, hy0, py0⟩ := pot_at (dpA_same s1 _ _ hxs) (i := 0) (by have := okC.pos; omega)
      refine ⟨_, rfl, p1, _, _, _, rfl, rfl, same_t s1 hp1, atI_nat (j := 0) hy0, rfl, _, rfl, ?_⟩
      cases hg0 : gp pots 0 with
      | none =>
        rw [hg0] at py0
        obtain rfl : y0 = .non := py0
        refine ite2 (fun _ => ?_) (fun h => absurd rfl h)
        refine no _ s1 fun t => ?_
        obtain ⟨f, hf⟩ := t.zero
        rw [hg0] at hf
        cases hf
      | some f0 =>
        rw [hg0] at py0
        obtain ⟨pf0, rfl, _⟩ := py0
        refine ite2 (fun h => (nomatch (show false = true from h))) (fun _ => ?_)
        refine ⟨_, rfl, _, rfl, LR, p1, rs, xs, rfl, ⟨hLR, same_t s1 hp1⟩, for_it (walk_zipM (n := C.length) rl (by rw [xl, kl])) (fun i σ H' => ∃ (y8 y9 : Option V), σ = [some vc, some vw, some (.ref pp), some (.ref p0), some (.ref p1), some x2, some x3, some (.ref LR), y8, y9, none, none, none] ∧ Same H1 H' ∧ ∀ (s : Nat) (r : List Br) (f : F2), s < i → C[s]? = some r → gp pots s = some f → boundB W pace pots f r = true) ⟨_, _, rfl, Same.refl _, fun s r f h => absurd h (Nat.not_lt_zero _)⟩ (fun i σ H' _ ⟨_, _, _, s, _⟩ => ⟨same_l s hLR, same_t (s1.trans s) hp1⟩) ?_ ?_⟩
        · rintro i x σ H2 H2' hi ⟨y8, y9, rfl, s2, ih⟩ ⟨T', u, v', rfl, hT, rfl, hu, hv'⟩
          have s3 := s2.trans (same_new (o := .tup [u, v']) hT)
          have hT3 := upd_same (H := H2) (a := T') (o := .tup [u, v'])
          generalize upd H2 T' (.tup [u, v']) = H3 at s3 hT3
          obtain ⟨x', hx', px'⟩ := pot_at (dpA_same (s1.trans s3) _ _ hxs) (i := i) (by omega)
          have hv' : xs[i]? = some v' := hv'
          rw [hv'] at hx'
          cases hx'
          have hr : C[i]? = some (rowOf C i) := rowOf_at hi
          obtain ⟨u', hu', du⟩ := dpA_get (dpA_same s3 _ _ hrs) (by rw [List.getElem?_map, hr]; rfl : (C.map (wRow W))[i]? = some (wRow W (rowOf C i)))
          have hu : rs[i]? = some u := hu
          rw [hu] at hu'
          cases hu'
          have next : ∀ (y8 y9 : Option V) (H4 : Hp), Same H3 H4 → (∀ f, gp pots i = some f → boundB W pace pots f (rowOf C i) = true) → ∃ (a9 b9 : Option V), [some vc, some vw, some (.ref pp), some (.ref p0), some (.ref p1), some x2, some x3, some (.ref LR), y8, y9, none, none, none] = [some vc, some vw, some (.ref pp), some (.ref p0), some (.ref p1), some x2, some x3, some (.ref LR), a9, b9, none, none, none] ∧ Same H1 H4 ∧ ∀ (s : Nat) (r : List Br) (f : F2), s < i + 1 → C[s]? = some r → gp pots s = some f → boundB W pace pots f r = true := fun y8 y9 H4 s4 hb => by
            refine ⟨_, _, rfl, s3.trans s4, fun s r f hs hr' hf => ?_⟩
            by_cases c : s = i
            · subst c
              rw [hr] at hr'
              cases hr'
              exact hb f hf
            · exact ih s r f (by omega) hr' hf
          refine ⟨_, _, rfl, SqT.of hT3, rfl, _, _, rfl, _, _, rfl, rfl, ?_⟩
          cases hg : gp pots i with
          | none =>
            rw [hg] at px'
            obtain rfl : v' = .non := px'
            refine ⟨_, rfl, rfl, _, rfl, ite2 (fun h => (nomatch (show false = true from h))) (fun _ => ?_)⟩
            exact next _ _ _ (Same.refl _) fun f hf => by rw [hg] at hf; cases hf
          | some f =>
            rw [hg] at px'
            obtain ⟨pf, rfl, hpf⟩ := px'
            obtain ⟨lf, zf⟩ := ok.pot f (gp_mem hg)
            refine ⟨_, rfl, rfl, _, rfl, ite2 (fun _ => ?_) (fun h => absurd rfl h)⟩
            refine ⟨_, rfl, _, rfl, _, rfl, _, rfl, u, .ref p1, p0, pf, pace, f, pots, wRow W (rowOf C i), rfl, du, same_t (s1.trans s3) hp0, ok.low, ok.sz, dp_same (s1.trans s3) _ _ hx1, ok.pot, hpf, lf, zf, rowE okC.s hW kl (List.mem_of_getElem? hr), fun H4 s4 => ?_⟩
            cases hb : boundE pace pots f (wRow W (rowOf C i)) with
            | true =>
              refine ⟨_, rfl, ite2 (fun h => (nomatch (show false = true from h))) (fun _ => ?_)⟩
              exact next _ _ _ s4 fun f' hf => by
                rw [hg] at hf
                cases hf
                exact hb
            | false =>
              refine ⟨_, rfl, ite2 (fun _ => ?_) (fun h => absurd rfl h)⟩
              refine no _ (s1.trans (s3.trans s4)) fun t => ?_
              have := t.row i _ f hr hg
              unfold boundB at this
              rw [hb] at this
              cases this
        · rintro σ H2 ⟨y8, y9, rfl, s2, ih⟩
          have s2 := s1.trans s2
          have rows : ∀ (s : Nat) (r : List Br) (f : F2), C[s]? = some r → gp pots s = some f → boundB W pace pots f r = true := fun s r f hr hf => ih s r f (List.getElem?_eq_some_iff.mp hr).1 hr hf
          obtain ⟨pc, pq, ys, rfl, hpc, hpq, hA⟩ := chn_at hC
          refine ⟨_, rfl, pc, _, _, _, rfl, rfl, same_t s2 hpc, atI_nat (j := 2) rfl, _, rfl, _, rfl, .ref pq, x2, x3, C, way, ring, rfl, .tup (same_t s2 hpq) (dpA_same s2 _ _ hA), okC.s, okC.pos, ok.l1, ok.l2, dp_same s2 _ _ hx2, dp_same s2 _ _ hx3, fun H3 v s3 hv => ?_⟩
          have s4 := s2.trans s3
          cases hrg : ringB C way ring with
          | none =>
            rw [hrg] at hv
            obtain rfl : v = .non := hv
            refine ⟨_, rfl, rfl, _, rfl, ite2 (fun _ => ?_) (fun h => absurd rfl h)⟩
            refine no _ s4 fun t => ?_
            obtain ⟨l, m, e, _⟩ := t.ring
            rw [hrg] at e
            cases e
          | some lm =>
            obtain ⟨l, m⟩ := lm
            rw [hrg] at hv
            have hv : Dp K H3 v (.tuple [.list (l.map dBr), .list (m.map dBr)]) := hv
            obtain ⟨e1, e2, e3⟩ := ringB_ok okC.s okC.pos hrg
            obtain ⟨pw, vs, rfl, hpw, hvs⟩ := dp_tup hv
            obtain ⟨u0, r0', rfl, hu0, hvs⟩ := dpA_cons hvs
            obtain ⟨u1, r1', rfl, hu1, hvs⟩ := dpA_cons hvs
            cases dpA_nil hvs
            refine ⟨_, rfl, rfl, _, rfl, ite2 (fun h => (nomatch (show false = true from h))) (fun _ => ?_)⟩
            obtain ⟨pk, zs, rfl, hpk, hzs⟩ := dp_lst hu1
            have zl := dpA_len hzs
            rw [List.length_map] at zl
            have l2 := ok.l2
            obtain ⟨pg, gs, rfl, hpg, hgs⟩ := dp_tup hx3
            have gl := dpA_len hgs
            rw [List.length_map] at gl
            have wm := wsum_le hW m fun b hb => e3 b (List.mem_append_right _ hb)
            refine ⟨_, rfl, pw, _, _, _, rfl, rfl, hpw, atI_nat (j := 1) rfl, pk, rfl, ⟨_, hpk⟩, fun M hM => lc_list (K := K) (a := pk) (xs := zs) (fun j H' => Same H3 H' ∧ H' M = some (.lst (((m.take j).map fun b => wv W b.2.1).map V.int))) ⟨same_new hM, upd_same⟩ (fun j H' _ e => same_l e.1 hpk) ?_ ?_⟩
            · rintro j x H5 hj ⟨s5, hM5⟩
              obtain ⟨br, hbr, hy⟩ := dpA_mem (dpA_same s5 _ _ hzs) hj
              obtain ⟨pb, t0, t1, rfl, hpb, hd0, hd1⟩ := br_at hy
              have b6 := e3 br (List.mem_append_right _ (List.mem_of_getElem? hbr))
              refine ⟨rfl, _, rfl, _, rfl, pb, _, _, _, rfl, rfl, hpb, atI_nat (j := 1) rfl, vw, t1, W, br.2.1, rfl, hw.same (s4.trans s5), nd, wl, hd1, by omega, fun H6 s6 => ?_⟩
              refine ⟨_, s6 _ _ hM5, by rw [List.length_map, List.length_map, List.length_take]; exact line6 (by omega), same_mut (s5.trans s6) hM, ?_⟩
              rw [upd_same, ← take_map_succ (f := fun b : Br => wv W b.2.1) hbr, List.map_append]
              rfl
            · rintro H5 ⟨s5, hM5⟩
              rw [zl, List.take_length] at hM5
              have s6 := s4.trans s5
              refine ⟨M, _, rfl, SqL.of hM5, ?_⟩
              obtain ⟨l1', zr⟩ := w1 (ring.length : Int) (by omega)
              refine ⟨_, rfl, _, rfl, _, _, rfl, .inr ⟨_, same_t s6 hpg, rfl⟩, z2, fun N hN => ?_⟩
              rw [gl] at *
              have s7 := same_new (o := .tup [.int (ring.length : Int), .int 1]) hN
              refine ⟨p0, N, pace, ((ring.length : Int), 1), rfl, same_t (s6.trans s7) hp0, SqT.of upd_same, sz_up ok.sz (by decide), sz_up zr (by decide), mul2_ne ok.low l1', fun N2 hN2 => ?_⟩
              have s8 := same_new (o := tupF (frp (mul2 pace ((ring.length : Int), 1)))) hN2
              refine ⟨_, rfl, z2, fun N3 hN3 => ?_⟩
              have s9 := same_new (o := .tup [.int (wsum W m), .int 1]) hN3
              have s10 := s6.trans (s7.trans (s8.trans s9))
              refine ⟨dF (frp (mul2 pace ((ring.length : Int), 1))), dF (wsum W m, 1), dp_F (same_t s9 sq_new), dp_F (SqT.of upd_same), dF_sh _, dF_sh _, ?_⟩
              rw [eqv_F]
              have eg : decide (frp (mul2 pace ((ring.length : Int), 1)) = (wsum W m, 1)) = gB (TakeP C W pace pots way ring) := by
                by_cases c : frp (mul2 pace ((ring.length : Int), 1)) = (wsum W m, 1)
                · rw [decide_eq_true c, gB_t ⟨kl, ⟨f0, hg0⟩, rows, l, m, hrg, c⟩]
                · rw [decide_eq_false c, gB_f fun t => ?_]
                  obtain ⟨l', m', e, d⟩ := t.ring
                  rw [hrg] at e
                  cases e
                  exact c d
              rw [eg]
              exact q _ s10
    · refine ite2 (fun _ => ite2 (fun _ => no _ s1 fun h => kl h.len) (fun h => absurd rfl h)) (fun h => absurd ?_ h)
      have : V.int (pots.length : Int) ≠ V.int (C.length : Int) := fun z => kl (by have := V.int.inj z; omega)
      simp [this]
end
end Mt
namespace Mt
open PySem PySem.Spec PyProof.Rows L2
abbrev spTaken (K : PySem.W.Frag) : Sp := spJRate K
section
variable {P : Program} {w : World} {K : PySem.W.Frag} {mg : Str → Option Value} {base : Heap}
set_option maxHeartbeats 1000000 in
theorem ok__law_rate_taken (T : Txt K mg) (D__law_plus : Kept P w K mg base 2 "_law_plus" ["a", "b"] (spBin K add2)) (D__law_times : Kept P w K mg base 2 "_law_times" ["a", "b"] (spBin K mul2)) (D__law_less : Kept P w K mg base 1 "_law_less" ["a", "b"] (spLess K)) (D__law_worth : Kept P w K mg base 1 "_law_worth" ["worths", "shown"] (spLWorth K)) (D__law_along : Kept P w K mg base 2 "_law_along" ["chain", "worths", "start", "blocks"] (spLAlong K)) {f : Addr} {fd : FuncData} (F : FnP K "_law_rate_taken" s__law_rate_taken f fd) : FnOk P w K mg base CX0 3 f fd ["chain", "worths", "paper"] (spTaken K) := by
  refine F.ok sc__law_rate_taken (fun vs H Q E h => ?_) (fun cdv A outer s H vs Q E hr h => ?_)
  · obtain ⟨vc, vw, vp, b, C, W, pace, pots, way, ring, rfl, _⟩ := h
    rfl
  · obtain ⟨vc, vw, vp, b, C, W, pace, pots, way, ring, rfl, hC, okC, hw, nd, wl, hW, hP, ok, q⟩ := h
    refine ⟨_, PSs.nox (pss_cons (ps_asg (pv 2) (pg_tup rfl (pgs_cons (pg_name (i := 3) sc__law_rate_taken.nd rfl (Or.inl rfl)) (pgs_cons (pg_name (i := 4) sc__law_rate_taken.nd rfl (Or.inl rfl)) (pgs_cons (pg_name (i := 5) sc__law_rate_taken.nd rfl (Or.inl rfl)) (pgs_cons (pg_name (i := 6) sc__law_rate_taken.nd rfl (Or.inl rfl)) pgs_nil))))))
      (pss_cons (ps_if (PW.pt (pw_or (pt_cmpR op_ne (pe_callB call_len (by rfl) T.b_len (by decide +kernel) (pa_cons (pv 4) pa_nil)) (pe_callB call_len (by rfl) T.b_len (by decide +kernel) (pa_cons (pe_ix ix_tup (pv 0) pe_int (fun _ _ => rfl)) pa_nil)) (nomark _)) (pw_or1 (pt_cmpR op_isN (pe_ix ix_tup (pv 4) pe_int (fun _ _ => rfl)) pe_non (nomark _))))) (pss_one (ps_ret pe_bl)) pss_nil)
      (pss_cons (ps_for PassesOwn.never rfl (pi_range1 (by rfl) T.b_range (pa_cons (pe_callB call_len (by rfl) T.b_len (by decide +kernel) (pa_cons (pv 4) pa_nil)) pa_nil)) (pg_name (i := 7) sc__law_rate_taken.nd rfl (Or.inl rfl)) (pss_one (ps_if (pt_cmpR op_notN (pe_ix ix_tup (pv 4) (pv 7) (fun _ _ => rfl)) pe_non (nomark _)) (pss_cons (ps_set (i := 8) sc__law_rate_taken.nd rfl (Or.inl rfl) (pe_d D__law_plus (hr.mono (by decide)) (by rfl) (pa_cons (pv 3) (pa_cons (pe_ix ix_tup (pv 4) (pv 7) (fun _ _ => rfl)) pa_nil))))
      (pss_one (ps_for PassesOwn.never rfl (pi_tup (pe_ix ix_tup (pe_ix ix_tup (pv 0) pe_int (fun _ _ => rfl)) (pv 7) (fun _ _ => rfl))) (pg_tup rfl (pgs_cons (pg_name (i := 9) sc__law_rate_taken.nd rfl (Or.inl rfl)) (pgs_cons (pg_name (i := 10) sc__law_rate_taken.nd rfl (Or.inl rfl)) (pgs_cons (pg_name (i := 11) sc__law_rate_taken.nd rfl (Or.inl rfl)) pgs_nil)))) (pss_cons (ps_if (pt_cmpR op_isN (pe_ix ix_tup (pv 4) (pv 11) (fun _ _ => rfl)) pe_non (nomark _)) (pss_one (ps_ret pe_bl)) pss_nil)
      (pss_one (ps_if (pt_val (pe_d D__law_less (hr.mono (by decide)) (by rfl) (pa_cons (pv 8) (pa_cons (pe_d D__law_plus (hr.mono (by decide)) (by rfl) (pa_cons (pe_tup (pa_cons (pe_d D__law_worth (hr.mono (by decide)) (by rfl) (pa_cons (pv 1) (pa_cons (pv 10) pa_nil))) (pa_cons pe_int pa_nil))) (pa_cons (pe_ix ix_tup (pv 4) (pv 11) (fun _ _ => rfl)) pa_nil))) pa_nil)))) (pss_one (ps_ret pe_bl)) pss_nil)))))) pss_nil)))
      (pss_cons (ps_set (i := 12) sc__law_rate_taken.nd rfl (Or.inl rfl) (pe_d D__law_along (hr.mono (by decide)) (by rfl) (pa_cons (pv 0) (pa_cons (pv 1) (pa_cons pe_int (pa_cons (pv 5) pa_nil))))))
      (pss_cons (ps_if (PW.pt (pw_or (pt_cmpR op_isN (pv 12) pe_non (nomark _)) (pw_or1 (pt_cmpR op_eq (pe_callB call_len (by rfl) T.b_len (by decide +kernel) (pa_cons (pv 6) pa_nil)) pe_int (nomark _))))) (pss_one (ps_ret pe_bl)) pss_nil)
      (pss_cons (ps_set (i := 13) sc__law_rate_taken.nd rfl (Or.inl rfl) (pe_d D__law_along (hr.mono (by decide)) (by rfl) (pa_cons (pv 0) (pa_cons (pv 1) (pa_cons (pe_ix ix_tup (pv 12) pe_int (fun _ _ => rfl)) (pa_cons (pv 6) pa_nil))))))
      (pss_cons (ps_if (PW.pt (pw_or (pt_cmpR op_isN (pv 13) pe_non (nomark _)) (pw_or1 (pt_cmpR op_ne (pe_ix ix_tup (pv 13) pe_int (fun _ _ => rfl)) (pe_ix ix_tup (pv 12) pe_int (fun _ _ => rfl)) (nomark _))))) (pss_one (ps_ret pe_bl)) pss_nil)
      (pss_one (ps_ret (pe_cmpR (op_eqD (hr.units)) (pe_tup (pa_cons (pe_ix ix_tup (pv 13) pe_int (fun _ _ => rfl)) (pa_cons pe_int pa_nil))) (pe_d D__law_times (hr.mono (by decide)) (by rfl) (pa_cons (pv 3) (pa_cons (pe_tup (pa_cons (pe_callB call_len (by rfl) T.b_len (by decide +kernel) (pa_cons (pv 6) pa_nil)) (pa_cons pe_int pa_nil))) pa_nil))) (nomark _))))))))))), ?_⟩
    have no : ∀ H', Same H H' → ¬ TakeP C W pace pots way ring → Q (.bl false) H' := fun H' s h => by
      have := q _ s
      rw [gB_f h] at this
      exact this
    obtain ⟨pp, us, rfl, hpp, hus⟩ := dp_tup hP
    obtain ⟨x0, _, rfl, hx0, hus⟩ := dpA_cons hus
    obtain ⟨x1, _, rfl, hx1, hus⟩ := dpA_cons hus
    obtain ⟨x2, _, rfl, hx2, hus⟩ := dpA_cons hus
    obtain ⟨x3, _, rfl, hx3, hus⟩ := dpA_cons hus
    cases dpA_nil hus
    obtain ⟨p0, rfl, hp0⟩ := f2_at hx0
    obtain ⟨p1, xs, rfl, hp1, hxs⟩ := dp_tup hx1
    have xl := dpA_len hxs
    rw [List.length_map] at xl
    have few := okC.few
    have l0 := ok.l0
    have hC0 := hC
    obtain ⟨pc, pq, ys, rfl, hpc, hpq, hA⟩ := chn_at hC
    have yl := dpA_len hA
    rw [List.length_map] at yl
    refine ⟨_, rfl, _, _, rfl, hpp, rfl, _, _, rfl, _, _, rfl, _, _, rfl, _, _, rfl, rfl, ?_⟩
    refine ⟨_, rfl, _, _, rfl, .inr ⟨_, hp1, rfl⟩, _, rfl, pc, _, _, _, rfl, rfl, hpc, atI_nat (j := 2) rfl, _, _, rfl, .inr ⟨_, hpq, rfl⟩, rfl, _, rfl, ?_⟩
    rw [xl, yl]
    by_cases kl : pots.length = C.length
    · rw [kl]
      refine ite2 (fun h => absurd h (by simp)) (fun _ => ?_)
      obtain ⟨y0, hy0, py0⟩ := pot_at hxs (i := 0) (by have := okC.pos; omega)
      refine ⟨_, rfl, p1, _, _, _, rfl, rfl, hp1, atI_nat (j := 0) hy0, rfl, _, rfl, ?_⟩
      cases hg0 : gp pots 0 with
      | none =>
        rw [hg0] at py0
        obtain rfl : y0 = .non := py0
        refine ite2 (fun _ => ?_) (fun h => absurd rfl h)
        refine no _ (Same.refl _) fun t => ?_
        obtain ⟨f, hf⟩ := t.zero
        rw [hg0] at hf
        cases hf
      | some f0 =>
        rw [hg0] at py0
        obtain ⟨pf0, rfl, _⟩ := py0
        refine ite2 (fun h => (nomatch (show false = true from h))) (fun _ => ?_)
        refine ⟨_, rfl, _, _, rfl, .inr ⟨_, hp1, rfl⟩, _, rfl, by rw [xl]; omega, by rw [xl]; omega, for_range (lo := 0) (n := ((xs.length : Nat) : Int).toNat) (fun i σ H' => ∃ (y7 y8 y9 y10 y11 : Option V), σ = [some (.ref pc), some vw, some (.ref pp), some (.ref p0), some (.ref p1), some x2, some x3, y7, y8, y9, y10, y11, none, none] ∧ Same H H' ∧ ∀ (s : Nat) (r : List Br) (f : F2), s < i → C[s]? = some r → gp pots s = some f → boundB W pace pots f r = true) ⟨_, _, _, _, _, rfl, Same.refl _, fun s r f h => absurd h (Nat.not_lt_zero _)⟩ ?_ ?_⟩
        · rintro i σ H2 hi ⟨y7, y8, y9, y10, y11, rfl, s2, ih⟩
          rw [Int.toNat_natCast, xl, kl] at hi
          have e0 : (0 : Int) + (i : Int) = (i : Int) := Int.zero_add _
          obtain ⟨x, hx, px⟩ := pot_at (dpA_same s2 _ _ hxs) (i := i) (by omega)
          have atx : atI xs (0 + (i : Int)) = some x := by rw [e0]; exact atI_nat hx
          have hr : C[i]? = some (rowOf C i) := rowOf_at hi
          have next : ∀ (y7 y8 y9 y10 y11 : Option V) (H4 : Hp), Same H2 H4 → (∀ f, gp pots i = some f → boundB W pace pots f (rowOf C i) = true) → ∃ (a7 a8 a9 a10 a11 : Option V), [some (.ref pc), some vw, some (.ref pp), some (.ref p0), some (.ref p1), some x2, some x3, y7, y8, y9, y10, y11, none, none] = [some (.ref pc), some vw, some (.ref pp), some (.ref p0), some (.ref p1), some x2, some x3, a7, a8, a9, a10, a11, none, none] ∧ Same H H4 ∧ ∀ (s : Nat) (r : List Br) (f : F2), s < i + 1 → C[s]? = some r → gp pots s = some f → boundB W pace pots f r = true := fun y7 y8 y9 y10 y11 H4 s4 hb => by
            refine ⟨_, _, _, _, _, rfl, s2.trans s4, fun s r f hs hr' hf => ?_⟩
            by_cases c : s = i
            · subst c
              rw [hr] at hr'
              cases hr'
              exact hb f hf
            · exact ih s r f (by omega) hr' hf
          refine ⟨_, rfl, _, rfl, p1, _, _, _, rfl, rfl, same_t s2 hp1, atx, ?_⟩
          cases hg : gp pots i with
          | none =>
            rw [hg] at px
            obtain rfl : x = .non := px
            refine ⟨rfl, _, rfl, ite2 (fun h => (nomatch (show false = true from h))) (fun _ => ?_)⟩
            exact next _ _ _ _ _ _ (Same.refl _) fun f hf => by rw [hg] at hf; cases hf
          | some f =>
            rw [hg] at px
            obtain ⟨pf, rfl, hpf⟩ := px
            obtain ⟨lf, zf⟩ := ok.pot f (gp_mem hg)
            refine ⟨rfl, _, rfl, ite2 (fun _ => ?_) (fun h => absurd rfl h)⟩
            refine ⟨_, rfl, _, rfl, _, rfl, p1, _, _, _, rfl, rfl, same_t s2 hp1, atx, p0, pf, pace, f, rfl, same_t s2 hp0, hpf, sz_up ok.sz (by decide), sz_up zf (by decide), add2_ne ok.low lf, fun m hm => ?_⟩
            have s3 := same_new (o := tupF (frp (add2 pace f))) hm
            have hm1 := sq_new (K := K) (H := H2) (p := m) (f := frp (add2 pace f))
            have lm : Low (frp (add2 pace f)) := low_frp (add2_ne ok.low lf)
            have zm : Sz 2001 (frp (add2 pace f)) := fr_sz (add2_sz ok.sz zf)
            have be : boundB W pace pots f (rowOf C i) = (wRow W (rowOf C i)).all (okE (frp (add2 pace f)) pots) := rfl
            generalize frp (add2 pace f) = most at s3 hm1 lm zm be
            generalize upd H2 m (tupF most) = H3 at s3 hm1
            have s4 := s2.trans s3
            obtain ⟨xr, hxr, dr⟩ := dpA_get (dpA_same s4 _ _ hA) hr
            obtain ⟨okr1, okr2⟩ := okC.s.row _ (List.mem_of_getElem? hr)
            obtain ⟨pr, rs, rfl, hpr, hrs⟩ := dp_tup dr
            have rl := dpA_len hrs
            rw [List.length_map] at rl
            have aty : atI ys (0 + (i : Int)) = some (.ref pr) := by rw [e0]; exact atI_nat hxr
            refine ⟨_, rfl, pc, _, _, _, rfl, rfl, same_t s4 hpc, atI_nat (j := 2) rfl, _, rfl, pq, _, _, _, rfl, rfl, same_t s4 hpq, aty, pr, rfl, ⟨_, hpr⟩, for_tup (K := K) (a := pr) (xs := rs) (fun j σ H' => ∃ (y9 y10 y11 : Option V), σ = [some (.ref pc), some vw, some (.ref pp), some (.ref p0), some (.ref p1), some x2, some x3, some (.int (0 + (i : Int))), some (.ref m), y9, y10, y11, none, none] ∧ Same H3 H' ∧ ((wRow W (rowOf C i)).take j).all (okE most pots) = true) ⟨_, _, _, rfl, Same.refl _, rfl⟩ (fun j σ H' _ ⟨_, _, _, _, s, _⟩ => same_t s hpr) ?_ ?_⟩
            · rintro j y σ H4 hj ⟨y9, y10, y11, rfl, s5, jh⟩
              have s6 := s4.trans s5
              obtain ⟨br, hbr, hy⟩ := dpA_mem (dpA_same s5 _ _ hrs) hj
              obtain ⟨pb, t0, t1, rfl, hpb, hd0, hd1⟩ := br_at hy
              obtain ⟨tob, b6⟩ := okr2 br (List.mem_of_getElem? hbr)
              have he : (wRow W (rowOf C i))[j]? = some (wBr W br) := by
                unfold wRow
                rw [List.getElem?_map, hbr]
                rfl
              obtain ⟨x', hx', px'⟩ := pot_at (dpA_same s6 _ _ hxs) (i := br.2.2) (by omega)
              have stop : okE most pots (wBr W br) = false → ∀ H', Same H H' → Q (.bl false) H' := fun h H' s => by
                refine no _ s fun t => ?_
                have := t.row i _ f hr hg
                rw [be, all_not he h] at this
                cases this
              refine ⟨_, _, rfl, hpb, rfl, _, _, rfl, _, _, rfl, _, _, rfl, rfl, ?_⟩
              refine ⟨_, rfl, _, rfl, p1, _, _, _, rfl, rfl, same_t s6 hp1, atI_nat hx', ?_⟩
              cases hg' : gp pots br.2.2 with
              | none =>
                rw [hg'] at px'
                obtain rfl : x' = .non := px'
                refine ⟨rfl, _, rfl, ite2 (fun _ => ?_) (fun h => absurd rfl h)⟩
                refine stop ?_ _ s6
                unfold okE
                show (match gp pots br.2.2 with | none => false | some ah => !lessB most (frp (add2 (wv W br.2.1, 1) ah))) = false
                rw [hg']
              | some ah =>
                rw [hg'] at px'
                obtain ⟨pa, rfl, hpa⟩ := px'
                obtain ⟨la, za⟩ := ok.pot ah (gp_mem hg')
                obtain ⟨lw, zw⟩ := w1 (wv W br.2.1) (by have := wv_le hW br.2.1; omega)
                have ev : okE most pots (wBr W br) = !lessB most (frp (add2 (wv W br.2.1, 1) ah)) := by
                  unfold okE
                  show (match gp pots br.2.2 with | none => false | some ah => !lessB most (frp (add2 (wv W br.2.1, 1) ah))) = _
                  rw [hg']
                refine ⟨rfl, _, rfl, ite2 (fun h => (nomatch (show false = true from h))) (fun _ => ?_)⟩
                refine ⟨_, rfl, _, rfl, _, rfl, vw, t1, W, br.2.1, rfl, (hw.same s6).s, nd, wl, hd1, by omega, fun H5 s7 => ?_⟩
                refine ⟨z2, fun N hN => ?_⟩
                have s8 := same_new (o := .tup [.int (wv W br.2.1), .int 1]) hN
                have s9 := s7.trans s8
                refine ⟨_, rfl, _, rfl, p1, _, _, _, rfl, rfl, same_t (s6.trans s9) hp1, atI_nat hx', N, pa, (wv W br.2.1, 1), ah, rfl, SqT.of upd_same, same_t s9 hpa, sz_up zw (by decide), sz_up za (by decide), add2_ne lw la, fun M hM => ?_⟩
                have s10 := s9.trans (same_new (o := tupF (frp (add2 (wv W br.2.1, 1) ah))) hM)
                refine ⟨m, M, most, _, rfl, same_t (s5.trans s10) hm1, sq_new, sz_up zm (by decide), sz_up (fr_sz (add2_sz zw za)) (by decide), ?_⟩
                cases hl : lessB most (frp (add2 (wv W br.2.1, 1) ah)) with
                | true =>
                  refine ⟨_, rfl, ite2 (fun _ => ?_) (fun h => absurd rfl h)⟩
                  exact stop (by rw [ev, hl]; rfl) _ (s6.trans s10)
                | false =>
                  refine ⟨_, rfl, ite2 (fun h => (nomatch (show false = true from h))) (fun _ => ?_)⟩
                  exact ⟨_, _, _, rfl, s5.trans s10, all_snoc he jh (by rw [ev, hl]; rfl)⟩
            · rintro σ H4 ⟨y9, y10, y11, rfl, s5, jh⟩
              have wl' : (wRow W (rowOf C i)).length = rs.length := by
                unfold wRow
                rw [List.length_map, rl]
              rw [← wl', List.take_length] at jh
              exact next _ _ _ _ _ _ (s3.trans s5) fun f' hf => by
                rw [hg] at hf
                cases hf
                rw [be]
                exact jh
        · rintro σ H2 ⟨y7, y8, y9, y10, y11, rfl, s2, ih⟩
          rw [Int.toNat_natCast, xl, kl] at ih
          have rows : ∀ (s : Nat) (r : List Br) (f : F2), C[s]? = some r → gp pots s = some f → boundB W pace pots f r = true := fun s r f hr hf => ih s r f (List.getElem?_eq_some_iff.mp hr).1 hr hf
          obtain ⟨pg, gs, rfl, hpg, hgs⟩ := dp_tup hx3
          have gl := dpA_len hgs
          rw [List.length_map] at gl
          have l2 := ok.l2
          have noR : ringB C way ring = none → ¬ TakeP C W pace pots way ring := fun h t => by
            obtain ⟨l, m, e, _⟩ := t.ring
            rw [h] at e
            cases e
          refine ⟨_, rfl, _, rfl, _, rfl, .ref pc, vw, x2, 0, b, C, W, way, rfl, dp_same s2 _ _ hC0, okC.s, okC.pos, (hw.same s2).s, nd, wl, ok.l1, dp_same s2 _ _ hx2, fun H3 x s3 hx => ?_⟩
          have s3 := s2.trans s3
          cases hal : alongB C 0 way with
          | none =>
            rw [hal] at hx
            obtain rfl : x = .non := hx
            refine ⟨_, rfl, rfl, _, rfl, ite2 (fun _ => ite2 (fun _ => ?_) (fun h => absurd rfl h)) (fun h => absurd rfl h)⟩
            exact no _ s3 (noR (by unfold ringB; rw [hal]))
          | some l =>
            rw [hal] at hx
            obtain ⟨st1, _, _⟩ := along_ok okC.s okC.pos hal
            obtain ⟨pa, us, rfl, hpa, hus⟩ := dp_tup (show Dp K H3 x (.tuple [.int ((stA 0 l : Nat) : Int), .int (wsum W l)]) from hx)
            obtain ⟨u0, _, rfl, hu0, hus⟩ := dpA_cons hus
            obtain ⟨u1, _, rfl, hu1, hus⟩ := dpA_cons hus
            cases dpA_nil hus
            obtain rfl := dp_int hu0
            obtain rfl := dp_int hu1
            refine ⟨_, rfl, rfl, _, rfl, ite2 (fun h => (nomatch (show false = true from h))) (fun _ => ?_)⟩
            refine ⟨_, rfl, _, _, rfl, .inr ⟨_, same_t s3 hpg, rfl⟩, rfl, _, rfl, ?_⟩
            rw [gl]
            by_cases r0 : ring = []
            · refine ite2 (fun _ => ?_) (fun h => absurd (by rw [r0]; rfl) h)
              exact no _ s3 (noR (by unfold ringB; rw [hal]; show (if ring = [] then none else _) = none; rw [if_pos r0]))
            · have rp : 0 < ring.length := List.length_pos_iff.mpr r0
              have rB : ringB C way ring = match alongB C (stA 0 l) ring with | none => none | some m => if stA (stA 0 l) m = stA 0 l then some (l, m) else none := by
                unfold ringB
                rw [hal]
                show (if ring = [] then none else match alongB C (stA 0 l) ring with | none => none | some m => if stA (stA 0 l) m = stA 0 l then some (l, m) else none) = _
                rw [if_neg r0]
              refine ite2 (fun h => ?_) (fun _ => ?_)
              · have := V.int.inj (of_decide_eq_true h)
                omega
              refine ⟨_, rfl, _, rfl, _, rfl, pa, _, _, _, rfl, rfl, hpa, atI_nat (j := 0) rfl, _, rfl, .ref pc, vw, .ref pg, stA 0 l, b, C, W, ring, rfl, dp_same s3 _ _ hC0, okC.s, st1, (hw.same s3).s, nd, wl, ok.l2, dp_same s3 _ _ hx3, fun H4 x s4 hx => ?_⟩
              have s5 := s3.trans s4
              cases har : alongB C (stA 0 l) ring with
              | none =>
                rw [har] at hx rB
                obtain rfl : x = .non := hx
                refine ⟨_, rfl, rfl, _, rfl, ite2 (fun _ => ite2 (fun _ => ?_) (fun h => absurd rfl h)) (fun h => absurd rfl h)⟩
                exact no _ s5 (noR rB)
              | some m =>
                rw [har] at hx rB
                have rB : ringB C way ring = if stA (stA 0 l) m = stA 0 l then some (l, m) else none := rB
                obtain ⟨st2, ml, mb⟩ := along_ok okC.s st1 har
                obtain ⟨pb, ws, rfl, hpb, hws⟩ := dp_tup (show Dp K H4 x (.tuple [.int ((stA (stA 0 l) m : Nat) : Int), .int (wsum W m)]) from hx)
                obtain ⟨u0, _, rfl, hu0, hws⟩ := dpA_cons hws
                obtain ⟨u1, _, rfl, hu1, hws⟩ := dpA_cons hws
                cases dpA_nil hws
                obtain rfl := dp_int hu0
                obtain rfl := dp_int hu1
                refine ⟨_, rfl, rfl, _, rfl, ite2 (fun h => (nomatch (show false = true from h))) (fun _ => ?_)⟩
                refine ⟨_, rfl, pb, _, _, _, rfl, rfl, hpb, atI_nat (j := 0) rfl, _, rfl, pa, _, _, _, rfl, rfl, same_t s4 hpa, atI_nat (j := 0) rfl, rfl, _, rfl, ?_⟩
                by_cases ee : stA (stA 0 l) m = stA 0 l
                · rw [if_pos ee] at rB
                  rw [ee]
                  refine ite2 (fun h => absurd h (by simp)) (fun _ => ?_)
                  have wm := wsum_le hW m mb
                  obtain ⟨l1', zr⟩ := w1 (ring.length : Int) (by omega)
                  refine ⟨_, rfl, pb, _, _, _, rfl, rfl, hpb, atI_nat (j := 1) rfl, z2, fun N hN => ?_⟩
                  have s6 := same_new (o := .tup [.int (wsum W m), .int 1]) hN
                  have hN1 := SqT.of (K := K) (upd_same (H := H4) (a := N) (o := .tup [.int (wsum W m), .int 1]))
                  generalize upd H4 N (.tup [.int (wsum W m), .int 1]) = H5 at s6 hN1
                  have s7 := s5.trans s6
                  refine ⟨_, rfl, _, rfl, _, _, rfl, .inr ⟨_, same_t s7 hpg, rfl⟩, z2, fun N2 hN2 => ?_⟩
                  rw [gl]
                  have s8 := same_new (o := .tup [.int (ring.length : Int), .int 1]) hN2
                  refine ⟨p0, N2, pace, ((ring.length : Int), 1), rfl, same_t (s7.trans s8) hp0, SqT.of upd_same, sz_up ok.sz (by decide), sz_up zr (by decide), mul2_ne ok.low l1', fun N3 hN3 => ?_⟩
                  have s9 := same_new (o := tupF (frp (mul2 pace ((ring.length : Int), 1)))) hN3
                  refine ⟨dF (wsum W m, 1), dF (frp (mul2 pace ((ring.length : Int), 1))), dp_F (same_t (s8.trans s9) hN1), dp_F sq_new, dF_sh _, dF_sh _, ?_⟩
                  rw [eqv_F]
                  have eg : decide ((wsum W m, 1) = frp (mul2 pace ((ring.length : Int), 1))) = gB (TakeP C W pace pots way ring) := by
                    by_cases c : frp (mul2 pace ((ring.length : Int), 1)) = (wsum W m, 1)
                    · rw [decide_eq_true c.symm, gB_t ⟨kl, ⟨f0, hg0⟩, rows, l, m, rB, c⟩]
                    · rw [decide_eq_false (fun h => c h.symm), gB_f fun t => ?_]
                      obtain ⟨l', m', e, d⟩ := t.ring
                      rw [rB] at e
                      cases e
                      exact c d
                  rw [eg]
                  exact q _ (s7.trans (s8.trans s9))
                · rw [if_neg ee] at rB
                  refine ite2 (fun _ => no _ s5 (noR rB)) (fun h => absurd ?_ h)
                  have : V.int ((stA (stA 0 l) m : Nat) : Int) ≠ V.int ((stA 0 l : Nat) : Int) := fun z => ee (by have := V.int.inj z; omega)
                  simp [this]
    · refine ite2 (fun _ => ite2 (fun _ => no _ (Same.refl _) fun h => kl h.len) (fun h => absurd rfl h)) (fun h => absurd ?_ h)
      have : V.int (pots.length : Int) ≠ V.int (C.length : Int) := fun z => kl (by have := V.int.inj z; omega)
      simp [this]
end
end Mt
namespace Mt
open PySem PySem.Spec PyProof.Rows L2
/-- a tuple of words, no more than n -/
def Wd (K : PySem.W.Frag) (H : Hp) (v : V) (n : Nat) : Prop := ∃ ws : List (List Int), Dp K H v (dWs ws) ∧ ws.length ≤ n
theorem dWs_noL (ws : List (List Int)) : noL (dWs ws) = true := noLs_map dI ws fun x _ => noLs_map _ x fun _ _ => rfl
theorem Wd.same {K : PySem.W.Frag} {H H' : Hp} {v : V} {n : Nat} (s : Same H H') (h : Wd K H v n) : Wd K H' v n := let ⟨ws, a, b⟩ := h; ⟨ws, dp_same s _ _ a, b⟩
theorem Wd.go {K : PySem.W.Frag} {S D : Addr} {H H' : Hp} {v : V} {n : Nat} (d : DrawAt S D H) (g : Go S D H H') (h : Wd K H v n) : Wd K H' v n := let ⟨ws, a, b⟩ := h; ⟨ws, dp_keep (Go.keepT d g) _ _ (dWs_noL ws) a, b⟩
theorem Wd.up {K : PySem.W.Frag} {H : Hp} {v : V} {n m : Nat} (h : Wd K H v n) (l : n ≤ m) : Wd K H v m := let ⟨ws, a, b⟩ := h; ⟨ws, a, Nat.le_trans b l⟩
theorem dWs_take (ws : List (List Int)) (i j : Nat) : ((ws.map dI).drop i).take j = ((ws.drop i).take j).map dI := by rw [← List.map_drop, ← List.map_take]
theorem slW {K : PySem.W.Frag} {H : Hp} {v : V} {n : Nat} {lo hi : Option Int} {Q : VK} (h : Wd K H v n) (q : ∀ v' H', Same H H' → Wd K H' v' n → Q v' H') : rSlA K v lo hi H Q := by
  obtain ⟨ws, hd, hl⟩ := h
  obtain ⟨a, xs, rfl, ha, hx⟩ := dp_tup hd
  refine ⟨a, xs, rfl, ha, fun _ => q _ _ (Same.refl _) ⟨ws, hd, hl⟩, fun _ p hp => ?_⟩
  have s := same_new (o := .tup (cutV xs lo hi)) hp
  refine q _ _ s ⟨(ws.drop (HT.sIx xs.length 0 lo)).take (HT.sIx xs.length xs.length hi - HT.sIx xs.length 0 lo), .tup (SqT.of upd_same) ?_, ?_⟩
  · rw [← dWs_take]
    exact dpA_take _ (dpA_drop _ (dpA_same s _ _ hx))
  · rw [List.length_take, List.length_drop]
    omega
theorem catW {K : PySem.W.Frag} {H : Hp} {a b : V} {n m : Nat} {Q : VK} (ha : Wd K H a n) (hb : Wd K H b m) (hl : n + m ≤ 1000) (q : ∀ v' H', Same H H' → Wd K H' v' (n + m) → Q v' H') : rCatA K a b H Q := by
  obtain ⟨w1, d1, l1⟩ := ha
  obtain ⟨w2, d2, l2⟩ := hb
  obtain ⟨p1, xs, rfl, h1, x1⟩ := dp_tup d1
  obtain ⟨p2, ys, rfl, h2, x2⟩ := dp_tup d2
  refine catA_mono (cat_D h1 h2 x1 x2 (by rw [List.length_map, List.length_map]; omega)) fun v' H' ⟨s, hd⟩ => q _ _ s ⟨w1 ++ w2, ?_, by rw [List.length_append]; omega⟩
  unfold dWs
  rw [List.map_append]
  exact hd
theorem Wd.one {K : PySem.W.Frag} {H : Hp} {v : V} {p : Addr} {w : List Int} (h : Dp K H v (dI w)) (hp : H p = none) : Wd K (upd H p (.tup [v])) (.ref p) 1 :=
  ⟨[w], .tup (SqT.of upd_same) (.cons (dp_same (same_new hp) _ _ h) .nil), Nat.le_refl _⟩
theorem Wd.nil {K : PySem.W.Frag} {H : Hp} {p : Addr} {n : Nat} : Wd K (upd H p (.tup [])) (.ref p) n := ⟨[], .tup (SqT.of upd_same) .nil, Nat.zero_le _⟩
theorem noP {σ : L2.St} {H : Hp} {Q : Option Int → Hp → Prop} (h : Q none H) : tNoPart σ H Q := h
def RingAt (K : PySem.W.Frag) (H : Hp) (v : V) (n : Nat) : Prop := ∃ (p : Addr) (x y : V), v = .ref p ∧ SqT K H p [x, y] ∧ Wd K H x n ∧ Wd K H y n
def spBentRg (K : PySem.W.Frag) : Sp := fun vs H Q _ => ∃ (S D : Addr) (b : Int) (vw vr : V), vs = [.ref D, .int b, vw, vr] ∧ DrawAt S D H ∧ 2 ≤ b ∧ b ≤ 6 ∧ Wd K H vw 200 ∧ Wd K H vr 200 ∧ ∀ H' v, Go S D H H' → RingAt K H' v 500 → Q v H'
section
variable {P : Program} {w : World} {K : PySem.W.Frag} {mg : Str → Option Value} {base : Heap}
set_option maxHeartbeats 1000000 in
theorem ok__law_bent_ring (T : Txt K mg) (D__law_draw : Kept P w K mg base 1 "_law_draw" ["d", "many"] spDraw) (D__law_pick : Kept P w K mg base 2 "_law_pick" ["d", "row"] (spPick K)) {f : Addr} {fd : FuncData} (F : FnP K "_law_bent_ring" s__law_bent_ring f fd) : FnOk P w K mg base CX0 3 f fd ["d", "base", "way", "ring"] (spBentRg K) := by
  refine F.ok sc__law_bent_ring (fun vs H Q E h => ?_) (fun cdv A outer s H vs Q E hr h => ?_)
  · obtain ⟨S, D, b, vw, vr, rfl, _⟩ := h
    rfl
  · obtain ⟨S, D, b, vw, vr, rfl, d, b2, b6, hw, hv, q⟩ := h
    refine ⟨_, PSs.nox (pss_cons (ps_set (i := 4) sc__law_bent_ring.nd rfl (Or.inl rfl) (pe_d D__law_draw (hr.mono (by decide)) (by rfl) (pa_cons (pv 0) (pa_cons pe_int pa_nil))))
      (pss_cons (ps_set (i := 5) sc__law_bent_ring.nd rfl (Or.inl rfl) (pe_d D__law_draw (hr.mono (by decide)) (by rfl) (pa_cons (pv 0) (pa_cons (pe_op op_add (pe_callB call_len (by rfl) T.b_len (by decide +kernel) (pa_cons (pv 3) pa_nil)) pe_int) pa_nil))))
      (pss_cons (ps_set (i := 6) sc__law_bent_ring.nd rfl (Or.inl rfl) (pe_callTy (tupOfT (K := K) rfl) (by rfl) T.b_tuple (by decide +kernel) (pa_cons (pe_lc (own := [("step", 7)]) (g := (gName 7)) (tt := tYes) rfl sc__law_bent_ring.nd (pi_range1 (by rfl) T.b_range (pa_cons (pe_d D__law_draw (hr.mono (by decide)) (by rfl) (pa_cons (pv 0) (pa_cons pe_int pa_nil))) pa_nil)) (blkOk_by (N := N__law_bent_ring) (sc := defScope s__law_bent_ring) (by decide +kernel)) (fun _ _ _ _ _ => (pg_name (i := 7) sc__law_bent_ring.nd rfl (Or.inl rfl))) (fun _ _ _ _ _ => pts_nil) (fun _ _ _ _ _ => (pe_d D__law_draw (hr.mono (by decide)) (by rfl) (pa_cons (pv 0) (pa_cons (pe_op op_add (pv 1) pe_int) pa_nil))))) pa_nil)))
      (pss_cons (ps_if (pt_cmpR op_eq (pv 4) pe_int (nomark _)) (pss_one (ps_ret (pe_tup (pa_cons (pv 2) (pa_cons (pe_op op_catA (pv 3) (pv 3)) pa_nil))))) pss_nil)
      (pss_cons (ps_if (pt_cmpR op_eq (pv 4) pe_int (nomark _)) (pss_one (ps_ret (pe_tup (pa_cons (pe_op op_catA (pv 2) (pv 3)) (pa_cons (pv 3) pa_nil))))) pss_nil)
      (pss_cons (ps_if (pt_cmpR op_eq (pv 4) pe_int (nomark _)) (pss_one (ps_ret (pe_tup (pa_cons (pv 2) (pa_cons (pe_tup pa_nil) pa_nil))))) pss_nil)
      (pss_cons (ps_if (pt_cmpR op_eq (pv 4) pe_int (nomark _)) (pss_one (ps_ret (pe_tup (pa_cons (pv 2) (pa_cons (pe_d D__law_pick (hr.mono (by decide)) (by rfl) (pa_cons (pv 0) (pa_cons (pe_lst (pa_cons (pe_slice sl_tupA (pv 3) (po_some pe_int) po_none) (pa_cons (pe_slice sl_tupA (pv 3) po_none (po_some (pe_un un_neg pe_int))) pa_nil))) pa_nil))) pa_nil))))) pss_nil)
      (pss_cons (ps_if (pt_cmpR op_eq (pv 4) pe_int (nomark _)) (pss_one (ps_ret (pe_tup (pa_cons (pe_d D__law_pick (hr.mono (by decide)) (by rfl) (pa_cons (pv 0) (pa_cons (pe_lst (pa_cons (pe_slice sl_tupA (pv 2) (po_some pe_int) po_none) (pa_cons (pe_slice sl_tupA (pv 2) po_none (po_some (pe_un un_neg pe_int))) (pa_cons (pe_tup pa_nil) pa_nil)))) pa_nil))) (pa_cons (pv 3) pa_nil))))) pss_nil)
      (pss_cons (ps_if (pt_cmpR op_eq (pv 4) pe_int (nomark _)) (pss_one (ps_ret (pe_tup (pa_cons (pe_op op_catA (pv 2) (pe_slice sl_tupA (pv 3) po_none (po_some (pv 5)))) (pa_cons (pe_op op_catA (pe_slice sl_tupA (pv 3) (po_some (pv 5)) po_none) (pe_slice sl_tupA (pv 3) po_none (po_some (pv 5)))) pa_nil))))) pss_nil)
      (pss_cons (ps_if (pt_cmpR op_eq (pv 4) pe_int (nomark _)) (pss_one (ps_ret (pe_tup (pa_cons (pv 2) (pa_cons (pe_op op_catA (pe_slice sl_tupA (pv 3) (po_some (pv 5)) po_none) (pe_slice sl_tupA (pv 3) po_none (po_some (pv 5)))) pa_nil))))) pss_nil)
      (pss_cons (ps_if (pt_cmpR op_eq (pv 4) pe_int (nomark _)) (pss_one (ps_ret (pe_tup (pa_cons (pv 2) (pa_cons (pe_op op_catA (pe_op op_catA (pe_slice sl_tupA (pv 3) po_none (po_some (pv 5))) (pe_tup (pa_cons (pv 6) pa_nil))) (pe_slice sl_tupA (pv 3) (po_some (pe_op op_add (pv 5) pe_int)) po_none)) pa_nil))))) pss_nil)
      (pss_cons (ps_if (pt_cmpR op_eq (pv 4) pe_int (nomark _)) (pss_one (ps_ret (pe_tup (pa_cons (pe_op op_catA (pe_op op_catA (pe_slice sl_tupA (pv 2) po_none (po_some (pv 5))) (pe_tup (pa_cons (pv 6) pa_nil))) (pe_slice sl_tupA (pv 2) (po_some (pe_op op_add (pv 5) pe_int)) po_none)) (pa_cons (pv 3) pa_nil))))) pss_nil)
      (pss_one (ps_ret (pe_tup (pa_cons (pv 2) (pa_cons (pv 3) pa_nil))))))))))))))))), ?_⟩
    refine ⟨_, rfl, S, D, 12, rfl, divW_of (by decide) (by decide), d, fun H1 turn _ _ g1 => ?_⟩
    have hv1 := hv.go d g1
    obtain ⟨rs, hrd, hrl⟩ := id hv1
    obtain ⟨pr, us, rfl, hpr, hus⟩ := dp_tup hrd
    have ul := dpA_len hus
    rw [List.length_map] at ul
    refine ⟨_, rfl, _, rfl, _, _, rfl, .inr ⟨_, hpr, rfl⟩, _, _, rfl, rfl, S, D, _, rfl, divW_of (by omega) (by omega), g1.1, fun H2 k _ _ g2 => ?_⟩
    have g2' := g1.trans g2
    refine ⟨_, rfl, S, D, 4, rfl, divW_of (by decide) (by decide), g2.1, fun H3 many _ _ g3 => ?_⟩
    have g3' := g2'.trans g3
    refine ⟨_, rfl, by omega, by omega, fun Lc hLc => lc_range (lo := 0) (n := many.toNat) (fun j H' => ∃ zs : List Int, Go S D H3 H' ∧ H' Lc = some (.lst (zs.map V.int)) ∧ zs.length = j) ⟨[], Go.new g3.1 hLc, upd_same, rfl⟩ ?_ ?_⟩
    · rintro j H4 hj ⟨zs, g4, hL4, hl⟩
      have LcD := (g3.1.free hLc).1
      refine ⟨rfl, _, rfl, _, rfl, _, _, rfl, rfl, S, D, _, rfl, divW_of (by omega) (by omega), g4.1, fun H5 x _ _ g5 => ?_⟩
      exact ⟨_, g5.2 _ _ hL4 LcD, by rw [List.length_map]; exact line6 (by omega), zs ++ [x], goU hLc g3.1 (g4.trans g5), by rw [upd_same, List.map_append]; rfl, by rw [List.length_append, List.length_singleton, hl]⟩
    · rintro H4 ⟨wd, g4, hL4, hl⟩
      refine ⟨Lc, _, rfl, .inl ⟨SqL.of hL4, fun pW hpW => ?_⟩⟩
      have g5 := g3'.trans (g4.trans (Go.new (o := .tup (wd.map V.int)) g4.1 hpW))
      have hW5 := upd_same (H := H4) (a := pW) (o := .tup (wd.map V.int))
      generalize upd H4 pW (.tup (wd.map V.int)) = H5 at g5 hW5
      have hWd : Dp K H5 (.ref pW) (dI wd) := i_of (SqT.of hW5)
      have hw5 := hw.go d g5
      have hv5 := hv.go d g5
      have fin : ∀ (H6 : Hp) (x y : V), Go S D H H6 → Wd K H6 x 500 → Wd K H6 y 500 → ∀ p, H6 p = none → Q (.ref p) (upd H6 p (.tup [x, y])) := fun H6 x y g hx hy p hp => by
        have s := same_new (o := .tup [x, y]) hp
        exact q _ _ (g.trans (Go.new g.1 hp)) ⟨p, x, y, rfl, SqT.of upd_same, hx.same s, hy.same s⟩
      have sm : ∀ {H6 : Hp}, Same H5 H6 → Go S D H H6 := fun s => g5.trans (Go.same g5.1 s)
      refine ⟨_, rfl, rfl, _, rfl, ite2 (fun _ => ?_) (fun _ => ?_)⟩
      · exact ⟨_, rfl, _, rfl, _, rfl, catW hv5 hv5 (by decide) fun v' H6 s h => ⟨z2, fin _ _ _ (sm s) ((hw5.same s).up (by decide)) (h.up (by decide))⟩⟩
      refine ⟨_, rfl, rfl, _, rfl, ite2 (fun _ => ?_) (fun _ => ?_)⟩
      · exact ⟨_, rfl, _, rfl, catW hw5 hv5 (by decide) fun v' H6 s h => ⟨_, rfl, z2, fin _ _ _ (sm s) (h.up (by decide)) ((hv5.same s).up (by decide))⟩⟩
      refine ⟨_, rfl, rfl, _, rfl, ite2 (fun _ => ?_) (fun _ => ?_)⟩
      · refine ⟨_, rfl, Nat.zero_le _, fun p0 hp0 => ⟨z2, ?_⟩⟩
        have s := same_new (o := .tup []) hp0
        exact fin _ _ _ (sm s) ((hw5.same s).up (by decide)) Wd.nil
      refine ⟨_, rfl, rfl, _, rfl, ite2 (fun _ => ?_) (fun _ => ?_)⟩
      · refine ⟨_, rfl, _, rfl, _, rfl, _, rfl, noP (slW hv5 fun v1 H6 s1 h1 => ⟨_, rfl, _, rfl, _, rfl, slW (hv5.same s1) fun v2 H7 s2 h2 => ⟨z2, fun L hL => ?_⟩⟩)⟩
        have s3 := same_new (o := .lst [v1, v2]) hL
        have hL8 := upd_same (H := H7) (a := L) (o := .lst [v1, v2])
        generalize upd H7 L (.lst [v1, v2]) = H8 at s3 hL8
        have g8 := sm (s1.trans (s2.trans s3))
        have LD := ((sm (s1.trans s2)).1.free hL).1
        refine ⟨S, D, .ref L, [v1, v2], rfl, g8.1, fun H' g' => .inr (.inl ⟨L, rfl, SqL.of (g'.2 _ _ hL8 LD)⟩), by show 0 < 2; decide, by show 2 ≤ 100000; decide, fun H9 x hx g9 => ⟨z2, ?_⟩⟩
        have hx9 : Wd K H9 x 200 := by
          simp only [List.mem_cons, List.not_mem_nil, or_false] at hx
          rcases hx with rfl | rfl
          · exact (h1.same (s2.trans s3)).go g8.1 g9
          · exact (h2.same s3).go g8.1 g9
        exact fin _ _ _ (g8.trans g9) ((hw.go d (g8.trans g9)).up (by decide)) (hx9.up (by decide))
      refine ⟨_, rfl, rfl, _, rfl, ite2 (fun _ => ?_) (fun _ => ?_)⟩
      · refine ⟨_, rfl, _, rfl, _, rfl, noP (slW hw5 fun v1 H6 s1 h1 => ⟨_, rfl, _, rfl, _, rfl, slW (hw5.same s1) fun v2 H7 s2 h2 => ⟨Nat.zero_le _, fun e hE => ⟨z3, fun L hL => ?_⟩⟩⟩)⟩
        have s3 := same_new (o := .tup []) hE
        have h3 : Wd K (upd H7 e (.tup [])) (.ref e) 200 := Wd.nil
        generalize upd H7 e (.tup []) = H7' at s3 h3 hL
        have s4 := same_new (o := .lst [v1, v2, .ref e]) hL
        have hL8 := upd_same (H := H7') (a := L) (o := .lst [v1, v2, .ref e])
        generalize upd H7' L (.lst [v1, v2, .ref e]) = H8 at s4 hL8
        have g8 := sm (s1.trans (s2.trans (s3.trans s4)))
        have LD := ((sm (s1.trans (s2.trans s3))).1.free hL).1
        refine ⟨S, D, .ref L, [v1, v2, .ref e], rfl, g8.1, fun H' g' => .inr (.inl ⟨L, rfl, SqL.of (g'.2 _ _ hL8 LD)⟩), by show 0 < 3; decide, by show 3 ≤ 100000; decide, fun H9 x hx g9 => ⟨_, rfl, z2, ?_⟩⟩
        have hx9 : Wd K H9 x 200 := by
          simp only [List.mem_cons, List.not_mem_nil, or_false] at hx
          rcases hx with rfl | rfl | rfl
          · exact (h1.same (s2.trans (s3.trans s4))).go g8.1 g9
          · exact (h2.same (s3.trans s4)).go g8.1 g9
          · exact (h3.same s4).go g8.1 g9
        exact fin _ _ _ (g8.trans g9) (hx9.up (by decide)) ((hv.go d (g8.trans g9)).up (by decide))
      refine ⟨_, rfl, rfl, _, rfl, ite2 (fun _ => ?_) (fun _ => ?_)⟩
      · refine ⟨_, rfl, _, rfl, _, rfl, _, rfl, slW hv5 fun v1 H6 s1 h1 => catW (hw5.same s1) h1 (by decide) fun v2 H7 s2 h2 => ?_⟩
        refine ⟨_, rfl, _, rfl, _, rfl, noP (slW (hv5.same (s1.trans s2)) fun v3 H8 s3 h3 => ⟨_, rfl, _, rfl, _, rfl, slW (hv5.same (s1.trans (s2.trans s3))) fun v4 H9 s4 h4 => catW (h3.same s4) h4 (by decide) fun v5 H10 s5 h5 => ⟨z2, ?_⟩⟩)⟩
        exact fin _ _ _ (sm (s1.trans (s2.trans (s3.trans (s4.trans s5))))) ((h2.same (s3.trans (s4.trans s5))).up (by decide)) (h5.up (by decide))
      refine ⟨_, rfl, rfl, _, rfl, ite2 (fun _ => ?_) (fun _ => ?_)⟩
      · refine ⟨_, rfl, _, rfl, _, rfl, _, rfl, noP (slW hv5 fun v3 H8 s3 h3 => ⟨_, rfl, _, rfl, _, rfl, slW (hv5.same s3) fun v4 H9 s4 h4 => catW (h3.same s4) h4 (by decide) fun v5 H10 s5 h5 => ⟨z2, ?_⟩⟩)⟩
        exact fin _ _ _ (sm (s3.trans (s4.trans s5))) ((hw5.same (s3.trans (s4.trans s5))).up (by decide)) (h5.up (by decide))
      refine ⟨_, rfl, rfl, _, rfl, ite2 (fun _ => ?_) (fun _ => ?_)⟩
      · refine ⟨_, rfl, _, rfl, _, rfl, _, rfl, slW hv5 fun v1 H6 s1 h1 => ⟨_, rfl, z1, fun e hE => ?_⟩⟩
        have s2 := same_new (o := .tup [.ref pW]) hE
        have h2 := Wd.one (K := K) (dp_same s1 _ _ hWd) hE
        generalize upd H6 e (.tup [.ref pW]) = H7 at s2 h2
        refine catW (h1.same s2) h2 (by decide) fun v3 H8 s3 h3 => ⟨_, rfl, _, rfl, _, _, rfl, rfl, _, rfl, noP (slW (hv5.same (s1.trans (s2.trans s3))) fun v4 H9 s4 h4 => catW (h3.same s4) h4 (by decide) fun v5 H10 s5 h5 => ⟨z2, ?_⟩)⟩
        exact fin _ _ _ (sm (s1.trans (s2.trans (s3.trans (s4.trans s5))))) ((hw5.same (s1.trans (s2.trans (s3.trans (s4.trans s5))))).up (by decide)) (h5.up (by decide))
      refine ⟨_, rfl, rfl, _, rfl, ite2 (fun _ => ?_) (fun _ => ?_)⟩
      · refine ⟨_, rfl, _, rfl, _, rfl, slW hw5 fun v1 H6 s1 h1 => ⟨_, rfl, z1, fun e hE => ?_⟩⟩
        have s2 := same_new (o := .tup [.ref pW]) hE
        have h2 := Wd.one (K := K) (dp_same s1 _ _ hWd) hE
        generalize upd H6 e (.tup [.ref pW]) = H7 at s2 h2
        refine catW (h1.same s2) h2 (by decide) fun v3 H8 s3 h3 => ⟨_, rfl, _, rfl, _, _, rfl, rfl, _, rfl, noP (slW (hw5.same (s1.trans (s2.trans s3))) fun v4 H9 s4 h4 => catW (h3.same s4) h4 (by decide) fun v5 H10 s5 h5 => ⟨_, rfl, z2, ?_⟩)⟩
        exact fin _ _ _ (sm (s1.trans (s2.trans (s3.trans (s4.trans s5))))) (h5.up (by decide)) ((hv5.same (s1.trans (s2.trans (s3.trans (s4.trans s5))))).up (by decide))
      exact ⟨_, rfl, _, rfl, z2, fin _ _ _ g5 (hw5.up (by decide)) (hv5.up (by decide))⟩
end
end Mt
namespace Mt
open PySem PySem.Spec PyProof.Rows L2
theorem slLK {X : Cx} {K : PySem.W.Frag} (h : X.K = K) : SlR X (rSlL K) := h ▸ sl_list
theorem slL_D {K : PySem.W.Frag} {H : Hp} {B : Addr} {us : List V} {ws : List (List Int)} {lo hi : Option Int} {Q : VK} (hB : SqL K H B us) (hd : DpAll K H us (ws.map dI)) (q : ∀ (p : Addr) (H' : Hp) (zs : List V) (cs : List (List Int)), Same H H' → H' p = some (.lst zs) → DpAll K H' zs (cs.map dI) → cs.length ≤ ws.length → Q (.ref p) H') : rSlL K (.ref B) lo hi H Q := by
  refine ⟨B, us, rfl, hB, fun p hp => ?_⟩
  have s := same_new (o := .lst (cutV us lo hi)) hp
  refine q p _ _ ((ws.drop (HT.sIx us.length 0 lo)).take (HT.sIx us.length us.length hi - HT.sIx us.length 0 lo)) s upd_same ?_ ?_
  · rw [← dWs_take]
    exact dpA_take _ (dpA_drop _ (dpA_same s _ _ hd))
  · rw [List.length_take, List.length_drop]
    omega
theorem wd_of {K : PySem.W.Frag} {H : Hp} {p : Addr} {zs : List V} {cs : List (List Int)} {n : Nat} (hd : DpAll K H zs (cs.map dI)) (hp : H p = none) (hl : cs.length ≤ n) : Wd K (upd H p (.tup zs)) (.ref p) n :=
  ⟨cs, .tup (SqT.of upd_same) (dpA_same (same_new hp) _ _ hd), hl⟩
def spSomeRg (K : PySem.W.Frag) : Sp := fun vs H Q _ => ∃ (S D : Addr) (vc : V) (z : Str) (b : Int) (C : Chn), vs = [.ref D, vc, .str z] ∧ DrawAt S D H ∧ Dp K H vc (dChn b C) ∧ ChnOk b C ∧ ∀ H' v, Go S D H H' → RingAt K H' v 100 → Q v H'
section
variable {P : Program} {w : World} {K : PySem.W.Frag} {mg : Str → Option Value} {base : Heap}
set_option maxHeartbeats 1000000 in
theorem ok__law_some_ring (T : Txt K mg) (D__law_draw : Kept P w K mg base 1 "_law_draw" ["d", "many"] spDraw) (D__law_pick : Kept P w K mg base 2 "_law_pick" ["d", "row"] (spPick K)) {f : Addr} {fd : FuncData} (F : FnP K "_law_some_ring" s__law_some_ring f fd) : FnOk P w K mg base CX0 3 f fd ["d", "chain", "mark"] (spSomeRg K) := by
  refine F.ok sc__law_some_ring (fun vs H Q E h => ?_) (fun cdv A outer s H vs Q E hr h => ?_)
  · obtain ⟨S, D, vc, z, b, C, rfl, _⟩ := h
    rfl
  · obtain ⟨S, D, vc, z, b, C, rfl, d, hC, okC, q⟩ := h
    refine ⟨_, PSs.nox (pss_cons (ps_set (i := 3) sc__law_some_ring.nd rfl (Or.inl rfl) pe_int)
      (pss_cons (ps_set (i := 4) sc__law_some_ring.nd rfl (Or.inl rfl) (pe_lst pa_nil))
      (pss_cons (ps_set (i := 5) sc__law_some_ring.nd rfl (Or.inr rfl) (pe_lst (pa_cons pe_int pa_nil)))
      (pss_cons (ps_for PassesOwn.never rfl (pi_range1 (by rfl) T.b_range (pa_cons (pe_op op_add pe_int (pe_d D__law_draw (hr.mono (by decide)) (by rfl) (pa_cons (pv 0) (pa_cons pe_int pa_nil)))) pa_nil)) (pg_name (i := 6) sc__law_some_ring.nd rfl (Or.inl rfl)) (pss_cons (ps_setLc (i := 7) (own := [("branch", 8)]) (g := (gName 8)) rfl sc__law_some_ring.nd rfl rfl (sw_true rfl rfl rfl (by decide +kernel)) (pi_tup (pe_ix ix_tup (pe_ix ix_tup (pv 1) pe_int (fun _ _ => rfl)) (pv 3) (fun _ _ => rfl))) (blkOk_by (N := N__law_some_ring) (sc := defScope s__law_some_ring) (by decide +kernel)) (fun _ _ _ _ _ => (pg_name (i := 8) sc__law_some_ring.nd rfl (Or.inl rfl))) (fun _ _ _ _ _ => (pts_one (pt_cmpR (ninK (K := K) rfl) (pv 2) (pe_ix (ixT (K := K) rfl) (pv 8) pe_int (fun _ _ => rfl)) (by rfl)))) (fun _ _ _ _ _ => (pv 8)))
      (Evl.pss_cut (ps_if (PW.pt (pw_or (pt_cmpR op_eq (pe_callB call_len (by rfl) T.b_len (by decide +kernel) (pa_cons (pv 7) pa_nil)) pe_int (nomark _)) (pw_or1 (pt_cmpR op_eq (pe_d D__law_draw (hr.mono (by decide)) (by rfl) (pa_cons (pv 0) (pa_cons pe_int pa_nil))) pe_int (nomark _))))) (pss_one (ps_set (i := 7) sc__law_some_ring.nd rfl (Or.inl rfl) (pe_callTy call_list_of (by rfl) T.b_list (by decide +kernel) (pa_cons (pe_ix ix_tup (pe_ix ix_tup (pv 1) pe_int (fun _ _ => rfl)) (pv 3) (fun _ _ => rfl)) pa_nil)))) pss_nil)
      (pss_cons (ps_asg (pe_d D__law_pick (hr.mono (by decide)) (by rfl) (pa_cons (pv 0) (pa_cons (pv 7) pa_nil))) (pg_tup rfl (pgs_cons (pg_name (i := 9) sc__law_some_ring.nd rfl (Or.inl rfl)) (pgs_cons (pg_name (i := 10) sc__law_some_ring.nd rfl (Or.inl rfl)) (pgs_cons (pg_name (i := 3) sc__law_some_ring.nd rfl (Or.inl rfl)) pgs_nil)))))
      (pss_cons (ps_expr (pe_bm PySem.F.plainAttrs_list PySem.F.slot_list_append PySem.F.type_list_append mt_append (pv 4) (pa_cons (pv 9) pa_nil)))
      (pss_one (ps_expr (pe_bm PySem.F.plainAttrs_list PySem.F.slot_list_append PySem.F.type_list_append mt_append (pv 5) (pa_cons (pv 3) pa_nil)))))))))
      (pss_cons (ps_setLc (i := 11) (own := [("k", 12)]) (g := (gName 12)) rfl sc__law_some_ring.nd rfl rfl (sw_true rfl rfl rfl (by decide +kernel)) (pi_range2 (by rfl) T.b_range (pa_cons pe_int (pa_cons (pe_callB call_len (by rfl) T.b_len (by decide +kernel) (pa_cons (pv 5) pa_nil)) pa_nil))) (blkOk_by (N := N__law_some_ring) (sc := defScope s__law_some_ring) (by decide +kernel)) (fun _ _ _ _ _ => (pg_name (i := 12) sc__law_some_ring.nd rfl (Or.inl rfl))) (fun _ _ _ _ _ => (pts_one (pt_cmpR (inK (K := K) rfl) (pe_ix (ixL (K := K) rfl) (pv 5) (pv 12) (fun _ _ => rfl)) (pe_slice (slLK (K := K) rfl) (pv 5) po_none (po_some (pv 12))) (by rfl)))) (fun _ _ _ _ _ => (pv 12)))
      (pss_cons (ps_if (pt_cmpR op_eq (pe_callB call_len (by rfl) T.b_len (by decide +kernel) (pa_cons (pv 11) pa_nil)) pe_int (nomark _)) (pss_one (ps_ret (pe_tup (pa_cons (pe_callTy call_tuple_of (by rfl) T.b_tuple (by decide +kernel) (pa_cons (pe_slice sl_list (pv 4) po_none (po_some pe_int)) pa_nil)) (pa_cons (pe_callTy call_tuple_of (by rfl) T.b_tuple (by decide +kernel) (pa_cons (pe_slice sl_list (pv 4) (po_some pe_int) po_none) pa_nil)) pa_nil))))) pss_nil)
      (pss_cons (ps_set (i := 13) sc__law_some_ring.nd rfl (Or.inl rfl) (pe_d D__law_pick (hr.mono (by decide)) (by rfl) (pa_cons (pv 0) (pa_cons (pv 11) pa_nil))))
      (pss_cons (ps_set (i := 14) sc__law_some_ring.nd rfl (Or.inl rfl) (pe_bm PySem.F.plainAttrs_list PySem.F.slot_list_index PySem.F.type_list_index mt_index (pv 5) (pa_cons (pe_ix ix_list (pv 5) (pv 13) (fun _ _ => rfl)) pa_nil)))
      (pss_one (ps_ret (pe_tup (pa_cons (pe_callTy call_tuple_of (by rfl) T.b_tuple (by decide +kernel) (pa_cons (pe_slice sl_list (pv 4) po_none (po_some (pv 14))) pa_nil)) (pa_cons (pe_callTy call_tuple_of (by rfl) T.b_tuple (by decide +kernel) (pa_cons (pe_slice sl_list (pv 4) (po_some (pv 14)) (po_some (pv 13))) pa_nil)) pa_nil))))))))))))), ?_⟩
    obtain ⟨pc, pq, xs, rfl, hpc, hpq, hA⟩ := chn_at hC
    have few := okC.few
    refine ⟨Nat.zero_le _, fun B hB => ?_⟩
    have gB := Go.new (o := .lst []) d hB
    have hB1 := upd_same (H := H) (a := B) (o := .lst [])
    generalize upd H B (.lst []) = H1 at gB hB1
    refine ⟨z1, fun M hM => ?_⟩
    have gM := gB.trans (Go.new (o := .lst [.int 0]) gB.1 hM)
    have BM : B ≠ M := ne_of_none hB1 hM
    have hB2 : upd H1 M (.lst [.int 0]) B = some (.lst []) := by rw [upd_ne BM]; exact hB1
    have hM2 := upd_same (H := H1) (a := M) (o := .lst [.int 0])
    have hM0 : H M = none := gB.free d hM
    have BD := (d.free hB).1
    have MD := (d.free hM0).1
    generalize upd H1 M (.lst [.int 0]) = H2 at gM hB2 hM2
    refine ⟨_, rfl, S, D, 9, rfl, divW_of (by decide) (by decide), gM.1, fun H3 n n0 n1 g3 => ⟨_, _, rfl, rfl, _, rfl, by omega, by omega, for_range (lo := 0) (n := (2 + n).toNat) (fun i σ H' => ∃ (y6 y7 y9 y10 : Option V) (s : Nat) (us : List V) (ws : List (List Int)) (ms : List Nat), σ = [some (.ref D), some (.ref pc), some (.str z), some (vN s), some (.ref B), some (.ref M), y6, y7, none, y9, y10, none, none, none, none] ∧ s < C.length ∧ Go S D H H' ∧ H' B = some (.lst us) ∧ DpAll K H' us (ws.map dI) ∧ ws.length = i ∧ H' M = some (.lst (ms.map vN)) ∧ ms.length = i + 1) ⟨_, _, _, _, 0, [], [], [0], rfl, okC.pos, gM.trans g3, g3.2 _ _ hB2 BD, .nil, rfl, g3.2 _ _ hM2 MD, rfl⟩ ?_ ?_⟩⟩
    · rintro i σ H4 hi ⟨y6, y7, y9, y10, st, us, ws, ms, rfl, hs, g4, hB4, hus, wl, hM4, ml⟩
      have k4 := Go.keepT d g4
      obtain ⟨xr, hxr, dr⟩ := dpA_get (dpA_keep k4 _ _ (noLs_rw C) hA) (rowOf_at hs)
      have okr := okC.row _ (List.mem_of_getElem? (rowOf_at hs))
      generalize rowOf C st = r at hxr dr okr
      obtain ⟨pr, rs, rfl, hpr, hrs⟩ := dp_tup dr
      have rl := dpA_len hrs
      rw [List.length_map] at rl
      have r20 := okr.few
      have rne := okr.ne
      have hpc4 := sqt_keep k4 hpc
      have hpq4 := sqt_keep k4 hpq
      have ul := dpA_len hus
      rw [List.length_map] at ul
      refine ⟨_, rfl, pc, _, _, _, rfl, rfl, hpc4, atI_nat (j := 2) rfl, _, rfl, pq, _, _, _, rfl, rfl, hpq4, atI_nat hxr, pr, rfl, ⟨_, hpr⟩, fun R hR => lc_tup (K := K) (a := pr) (xs := rs) (fun k H' => Same H4 H' ∧ ∃ (ts : List V) (l : List Br), H' R = some (.lst ts) ∧ DpAll K H' ts (l.map dBr) ∧ (∀ b ∈ l, b ∈ r) ∧ l.length ≤ k) ⟨same_new hR, [], [], upd_same, .nil, fun _ h => absurd h List.not_mem_nil, Nat.le_refl _⟩ (fun k H' _ e => same_t e.1 hpr) ?_ ?_⟩
      · rintro k x H5 hk ⟨s5, ts, l, hR5, hts, lr, ll⟩
        obtain ⟨bx, hbx, hx⟩ := dpA_mem (dpA_same s5 _ _ hrs) hk
        have hx' := hx
        have kl := (List.getElem?_eq_some_iff.mp hbx).1
        obtain ⟨px, x0, x1, rfl, hpx, hd0, hd1⟩ := br_at hx
        obtain ⟨p1, rfl, hp1⟩ := sh_at hd1
        have tl := dpA_len hts
        rw [List.length_map] at tl
        refine ⟨rfl, _, rfl, _, rfl, px, _, _, _, rfl, rfl, hpx, atI_nat (j := 1) rfl, p1, _, rfl, .inr hp1, rfl, flat_strs _, _, rfl, ?_⟩
        cases (!inV (.str z) _) with
        | false => exact ⟨s5, ts, l, hR5, hts, lr, by omega⟩
        | true =>
          refine ⟨_, rfl, ts, hR5, line6 (by omega), same_mut s5 hR, ts ++ [.ref px], l ++ [bx], upd_same, ?_, ?_, ?_⟩
          · have kM := keepT_nt (o := .lst (ts ++ [.ref px])) (nt_lst _) hR5
            rw [List.map_append]
            exact dpA_snoc (dpA_keep kM _ _ (noLs_br _) hts) (dp_keep kM _ _ (dBr_noL _) hx')
          · intro y hy
            rcases List.mem_append.mp hy with h | h
            · exact lr y h
            · rw [List.mem_singleton.mp h]
              exact List.mem_of_getElem? hbx
          · rw [List.length_append, List.length_singleton]
            omega
      · rintro H5 ⟨s5, ts, l, hR5, hts, lr, ll⟩
        have g5 := Go.same g4.1 s5
        have tl := dpA_len hts
        rw [List.length_map] at tl
        have rN : R ≠ D := (g4.1.free hR).1
        refine ⟨fun σ' H' => ∃ (y6 y9 y10 : Option V) (R' : Addr) (ts : List V) (l : List Br), σ' = [some (.ref D), some (.ref pc), some (.str z), some (vN st), some (.ref B), some (.ref M), y6, some (.ref R'), none, y9, y10, none, none, none, none] ∧ Go S D H4 H' ∧ R' ≠ D ∧ H' R' = some (.lst ts) ∧ DpAll K H' ts (l.map dBr) ∧ (∀ b ∈ l, b ∈ r) ∧ 0 < l.length ∧ l.length ≤ 20, ?_, ?_⟩
        · have full : ∀ H6, Go S D H4 H6 → ∀ R2, H6 R2 = none → ∃ (a6 a9 a10 : Option V) (R' : Addr) (ts : List V) (l : List Br), [some (.ref D), some (.ref pc), some (.str z), some (vN st), some (.ref B), some (.ref M), some (.int (0 + (i : Int))), some (.ref R2), none, y9, y10, none, none, none, none] = [some (.ref D), some (.ref pc), some (.str z), some (vN st), some (.ref B), some (.ref M), a6, some (.ref R'), none, a9, a10, none, none, none, none] ∧ Go S D H4 (upd H6 R2 (.lst rs)) ∧ R' ≠ D ∧ upd H6 R2 (.lst rs) R' = some (.lst ts) ∧ DpAll K (upd H6 R2 (.lst rs)) ts (l.map dBr) ∧ (∀ b ∈ l, b ∈ r) ∧ 0 < l.length ∧ l.length ≤ 20 := fun H6 g6 R2 hR2 => by
            have gn := Go.new (o := .lst rs) g6.1 hR2
            refine ⟨_, y9, y10, R2, rs, r, rfl, g6.trans gn, (g6.1.free hR2).1, upd_same, dpA_keep (Go.keepT g4.1 (g6.trans gn)) _ _ (noLs_br _) hrs, fun _ h => h, rne, r20⟩
          have lst : ∀ H6, Go S D H4 H6 → SqT K H6 pc [.str (Str.ofString "chain"), .int b, .ref pq] ∧ SqT K H6 pq xs ∧ SqT K H6 pr rs := fun H6 g6 => by
            have k := Go.keepT g4.1 g6
            exact ⟨sqt_keep k hpc4, sqt_keep k hpq4, sqt_keep k hpr⟩
          refine ⟨_, rfl, _, _, rfl, .inl ⟨_, SqL.of hR5, rfl⟩, rfl, _, rfl, ite2 (fun _ => ite2 (fun _ => ?_) (fun h => absurd rfl h)) (fun h => ?_)⟩
          · obtain ⟨f1, f2, f3⟩ := lst _ g5
            exact ⟨_, rfl, pc, _, _, _, rfl, rfl, f1, atI_nat (j := 2) rfl, _, rfl, pq, _, _, _, rfl, rfl, f2, atI_nat hxr, pr, rs, rfl, .inr f3, fun R2 hR2 => full _ g5 R2 hR2⟩
          · have t0 : 0 < l.length := by
              rcases Nat.eq_zero_or_pos ts.length with e | e
              · refine absurd ?_ h
                rw [e]
                rfl
              · omega
            refine ⟨_, rfl, S, D, 7, rfl, divW_of (by decide) (by decide), g5.1, fun H6 v v0 v1 g6 => ⟨rfl, _, rfl, ite2 (fun _ => ?_) (fun _ => ?_)⟩⟩
            · obtain ⟨f1, f2, f3⟩ := lst _ (g5.trans g6)
              exact ⟨_, rfl, pc, _, _, _, rfl, rfl, f1, atI_nat (j := 2) rfl, _, rfl, pq, _, _, _, rfl, rfl, f2, atI_nat hxr, pr, rs, rfl, .inr f3, fun R2 hR2 => full _ (g5.trans g6) R2 hR2⟩
            · exact ⟨_, _, _, R, ts, l, rfl, g5.trans g6, rN, g6.2 _ _ hR5 rN, dpA_keep (Go.keepT g5.1 g6) _ _ (noLs_br _) hts, lr, t0, by omega⟩
        · rintro σ' H6 ⟨y6, y9, y10, R', ts, l, rfl, g6, RD, hR6, hts, lr, l0, l20⟩
          have tl := dpA_len hts
          rw [List.length_map] at tl
          refine ⟨_, rfl, _, rfl, S, D, .ref R', ts, rfl, g6.1, fun H' g' => .inr (.inl ⟨R', rfl, SqL.of (g'.2 _ _ hR6 RD)⟩), by omega, by omega, fun H7 x hx g7 => ?_⟩
          obtain ⟨j, hj⟩ := List.getElem?_of_mem hx
          obtain ⟨br, hbr, hy⟩ := dpA_mem (dpA_keep (Go.keepT g6.1 g7) _ _ (noLs_br _) hts) hj
          have okb := okr.to br (lr br (List.mem_of_getElem? hbr))
          have g7' := g6.trans g7
          have k7 := Go.keepT g4.1 g7'
          obtain ⟨pb, x0, x1, rfl, hpb, hd0, hd1⟩ := br_at hy
          have hB7 := g7'.2 _ _ hB4 BD
          have hM7 := g7'.2 _ _ hM4 MD
          have hus7 := dpA_keep k7 _ _ (noLs_I _) hus
          refine ⟨_, _, rfl, hpb, rfl, _, _, rfl, _, _, rfl, _, _, rfl, rfl, ?_⟩
          refine ⟨_, rfl, .inl ⟨rfl, _, SqL.of hB7⟩, _, rfl, B, us, _, rfl, rfl, hB7, line6 (by omega), ?_⟩
          have kB := keepT_nt (o := .lst (us ++ [x0])) (nt_lst _) hB7
          have g8 := goU (o := .lst (us ++ [x0])) hB d (g4.trans g7')
          have hB8 := upd_same (H := H7) (a := B) (o := .lst (us ++ [x0]))
          have hM8 : upd H7 B (.lst (us ++ [x0])) M = some (.lst (ms.map vN)) := by rw [upd_ne (Ne.symm BM)]; exact hM7
          have hus8 := dpA_snoc (dpA_keep kB _ _ (noLs_I _) hus7) (dp_keep kB _ _ (dI_noL _) hd0)
          generalize upd H7 B (.lst (us ++ [x0])) = H8 at g8 hB8 hM8 hus8
          refine ⟨_, rfl, .inl ⟨rfl, _, SqL.of hM8⟩, _, rfl, M, _, _, rfl, rfl, hM8, by rw [List.length_map]; exact line6 (by omega), ?_⟩
          have kM := keepT_nt (o := .lst (ms.map vN ++ [vN br.2.2])) (nt_lst _) hM8
          refine ⟨_, _, _, _, br.2.2, us ++ [x0], ws ++ [br.1], ms ++ [br.2.2], rfl, okb.1, goU hM0 d g8, by rw [upd_ne BM]; exact hB8, ?_, by rw [List.length_append, List.length_singleton, wl], by rw [upd_same, List.map_append]; rfl, by rw [List.length_append, List.length_singleton, ml]⟩
          rw [List.map_append]
          exact dpA_keep kM _ _ (by rw [← List.map_singleton, ← List.map_append]; exact noLs_I _) hus8
    · rintro σ H4 ⟨y6, y7, y9, y10, st, us, ws, ms, rfl, hs, g4, hB4, hus, wl, hM4, ml⟩
      have ul := dpA_len hus
      rw [List.length_map] at ul
      refine ⟨_, rfl, _, _, rfl, .inl ⟨_, SqL.of hM4, rfl⟩, 1, _, rfl, by rw [List.length_map]; omega, fun Ec hE => lc_range (lo := 1) (n := ((((ms.map vN).length : Nat) : Int) - 1).toNat) (fun j H' => ∃ es : List Int, Same H4 H' ∧ H' Ec = some (.lst (es.map V.int)) ∧ es.length ≤ j ∧ ∀ e ∈ es, 1 ≤ e ∧ e < ms.length) ⟨[], same_new hE, upd_same, Nat.le_refl _, fun _ h => absurd h List.not_mem_nil⟩ ?_ ?_⟩
      · rintro j H5 hj ⟨es, s5, hE5, el, hes⟩
        rw [List.length_map] at hj
        have jm : j + 1 < ms.length := by omega
        have e1 : (1 : Int) + (j : Int) = ((j + 1 : Nat) : Int) := by omega
        have atm : atI (ms.map vN) (1 + (j : Int)) = some (vN ms[j + 1]) := by
          rw [e1]
          exact atI_nat (by rw [List.getElem?_map, List.getElem?_eq_getElem jm]; rfl)
        refine ⟨rfl, _, rfl, _, rfl, M, _, _, _, rfl, rfl, SqL.of (s5 _ _ hM4), atm, _, rfl, _, rfl, _, rfl, M, _, rfl, SqL.of (s5 _ _ hM4), fun p hp => ?_⟩
        have s6 := same_new (o := .lst (cutV (ms.map vN) none (some (1 + (j : Int))))) hp
        refine ⟨p, _, rfl, .inl (SqL.of upd_same), rfl, List.all_eq_true.mpr fun x hx => ?_, _, rfl, ?_⟩
        · have h1 : x ∈ ms.map vN := List.mem_of_mem_drop (List.mem_of_mem_take hx)
          exact List.all_eq_true.mp (flat_vN ms) x h1
        · have hE6 := s6 _ _ hE5
          generalize upd H5 p (.lst (cutV (ms.map vN) none (some (1 + (j : Int))))) = H6 at s6 hE6
          refine ite2 (fun _ => ?_) (fun _ => ⟨es, s5.trans s6, hE6, by omega, hes⟩)
          refine ⟨_, rfl, _, hE6, by rw [List.length_map]; exact line6 (by omega), es ++ [1 + (j : Int)], same_mut (s5.trans s6) hE, by rw [upd_same, List.map_append]; rfl, by rw [List.length_append, List.length_singleton]; omega, fun e he => ?_⟩
          rcases List.mem_append.mp he with h | h
          · exact hes e h
          · rw [List.mem_singleton.mp h]
            omega
      · rintro H5 ⟨es, s5, hE5, el, hes⟩
        rw [List.length_map] at el
        have g5 := g4.trans (Go.same g4.1 s5)
        have ED := (g4.1.free hE).1
        refine ⟨_, rfl, _, _, rfl, .inl ⟨_, SqL.of hE5, rfl⟩, rfl, _, rfl, ite2 (fun _ => ?_) (fun h => ?_)⟩
        · refine ⟨_, rfl, noP ⟨_, rfl, slL_D (SqL.of (s5 _ _ hB4)) (dpA_same s5 _ _ hus) fun p1 H6 zs cs s6 hp1 hzs cl => ⟨p1, zs, rfl, .inl ⟨SqL.of hp1, fun t1 ht1 => ?_⟩⟩⟩⟩
          have w7 := wd_of hzs ht1 (n := 100) (by omega)
          have s7 := s6.trans (same_new (o := .tup zs) ht1)
          generalize upd H6 t1 (.tup zs) = H7 at w7 s7
          refine ⟨_, rfl, _, rfl, noP (slL_D (SqL.of ((s5.trans s7) _ _ hB4)) (dpA_same (s5.trans s7) _ _ hus) fun p2 H8 zs2 cs2 s8 hp2 hzs2 cl2 => ⟨p2, zs2, rfl, .inl ⟨SqL.of hp2, fun t2 ht2 => ⟨z2, fun p hp => ?_⟩⟩⟩)⟩
          have w9 := wd_of hzs2 ht2 (n := 100) (by omega)
          have s9 := s8.trans (same_new (o := .tup zs2) ht2)
          generalize upd H8 t2 (.tup zs2) = H9 at w9 s9 hp
          have s10 := same_new (o := .tup [.ref t1, .ref t2]) hp
          exact q _ _ (g5.trans (Go.same g5.1 (s7.trans (s9.trans s10)))) ⟨p, _, _, rfl, SqT.of upd_same, w7.same (s9.trans s10), w9.same s10⟩
        · have e0 : 0 < es.length := by
            rcases Nat.eq_zero_or_pos es.length with e | e
            · refine absurd ?_ h
              rw [List.length_map, e]
              rfl
            · exact e
          refine ⟨_, rfl, _, rfl, S, D, .ref Ec, es.map V.int, rfl, g5.1, fun H' g' => .inr (.inl ⟨Ec, rfl, SqL.of (g'.2 _ _ hE5 ED)⟩), by rw [List.length_map]; exact e0, by rw [List.length_map]; omega, fun H6 x hx g6 => ?_⟩
          obtain ⟨e, he, rfl⟩ := List.mem_map.mp hx
          obtain ⟨e1, e2⟩ := hes e he
          obtain ⟨eN, rfl⟩ : ∃ k : Nat, e = (k : Int) := ⟨e.toNat, by omega⟩
          have em : eN < ms.length := by omega
          have g6' := (Go.same g4.1 s5).trans g6
          have hM6 := g6'.2 _ _ hM4 MD
          have hB6 := g6'.2 _ _ hB4 BD
          have hus6 := dpA_keep (Go.keepT g4.1 g6') _ _ (noLs_I _) hus
          have atm : atI (ms.map vN) (eN : Int) = some (vN ms[eN]) := atI_nat (by rw [List.getElem?_map, List.getElem?_eq_getElem em]; rfl)
          obtain ⟨at', ha1, ha2⟩ := first_at (List.getElem_mem em)
          generalize hst : ms[eN] = st' at atm ha1 ha2
          refine ⟨_, rfl, .inl ⟨rfl, _, SqL.of hM6⟩, _, rfl, _, rfl, M, _, _, _, rfl, rfl, SqL.of hM6, atm, M, ms.map vN, _, at', vN st', rfl, rfl, SqL.of hM6, rfl, flat_vN ms, by rw [List.getElem?_map, ha1]; rfl, ?_, ?_, ?_⟩
          · show (((st' : Nat) : Int) == ((st' : Nat) : Int)) = true
            exact beq_self_eq_true _
          · intro m z' hm hz
            rw [List.getElem?_map] at hz
            obtain ⟨z, hz2, rfl⟩ := Option.map_eq_some_iff.mp hz
            show (((z : Nat) : Int) == ((st' : Nat) : Int)) = false
            have := ha2 m z hm hz2
            refine beq_eq_false_iff_ne.mpr fun e => this ?_
            omega
          have g6' := g5.trans g6
          refine ⟨_, rfl, noP ⟨_, rfl, _, rfl, slL_D (SqL.of hB6) hus6 fun p1 H7 zs cs s7 hp1 hzs cl => ⟨p1, zs, rfl, .inl ⟨SqL.of hp1, fun t1 ht1 => ?_⟩⟩⟩⟩
          have w8 := wd_of hzs ht1 (n := 100) (by omega)
          have s8 := s7.trans (same_new (o := .tup zs) ht1)
          generalize upd H7 t1 (.tup zs) = H8 at w8 s8
          refine ⟨_, rfl, _, rfl, _, rfl, _, rfl, _, rfl, slL_D (SqL.of (s8 _ _ hB6)) (dpA_same s8 _ _ hus6) fun p2 H9 zs2 cs2 s9 hp2 hzs2 cl2 => ⟨p2, zs2, rfl, .inl ⟨SqL.of hp2, fun t2 ht2 => ⟨z2, fun p hp => ?_⟩⟩⟩⟩
          have w10 := wd_of hzs2 ht2 (n := 100) (by omega)
          have s10 := s9.trans (same_new (o := .tup zs2) ht2)
          generalize upd H9 t2 (.tup zs2) = H10 at w10 s10 hp
          have s11 := same_new (o := .tup [.ref t1, .ref t2]) hp
          exact q _ _ (g6'.trans (Go.same g6'.1 (s8.trans (s10.trans s11)))) ⟨p, _, _, rfl, SqT.of upd_same, w8.same (s10.trans s11), w10.same s11⟩
end
end Mt
namespace Mt
open PySem PySem.Spec PyProof.Rows L2
theorem rk_le {N : List (List Nat)} {e : Nat} (h : e ∈ rk N) : e ≤ N.length := by
  obtain ⟨s, hs⟩ := List.getElem?_of_mem h
  have g : ga (rk N) s = e := by
    unfold ga
    rw [hs]
    rfl
  rcases Nat.eq_zero_or_pos e with h0 | h0
  · omega
  · have := (fnd_val (N := N) N.length s (by show 0 < ga (rk N) s; omega)).1
    have h2 : ga (fnd N N.length) s = e := g
    omega
theorem rk_nx {C : Chn} {z : Str} : (rk (nx C z)).length = C.length := by
  have h1 : (rk (nx C z)).length = (nx C z).length := fnd_len _ _
  rw [h1]
  unfold nx
  rw [List.length_map]
def RksAt (K : PySem.W.Frag) (H : Hp) (v : V) : Prop := ∃ (pk : Addr) (ks : List Int), v = .ref pk ∧ SqT K H pk (ks.map V.int) ∧ ks.length ≤ 200
def spSomeRk (K : PySem.W.Frag) : Sp := fun vs H Q _ => ∃ (S D : Addr) (vc : V) (z : Str) (b : Int) (C : Chn), vs = [.ref D, vc, .str z] ∧ DrawAt S D H ∧ Dp K H vc (dChn b C) ∧ ChnOk b C ∧ ∀ H' v, Go S D H H' → RksAt K H' v → Q v H'
section
variable {P : Program} {w : World} {K : PySem.W.Frag} {mg : Str → Option Value} {base : Heap}
set_option maxHeartbeats 1000000 in
theorem ok__law_some_ranks (T : Txt K mg) (D__law_draw : Kept P w K mg base 1 "_law_draw" ["d", "many"] spDraw) (D__law_pick : Kept P w K mg base 2 "_law_pick" ["d", "row"] (spPick K)) (D__law_longest : Kept P w K mg base 1 "_law_longest" ["chain", "mark"] (spLLong K)) {f : Addr} {fd : FuncData} (F : FnP K "_law_some_ranks" s__law_some_ranks f fd) : FnOk P w K mg base CX0 3 f fd ["d", "chain", "mark"] (spSomeRk K) := by
  refine F.ok sc__law_some_ranks (fun vs H Q E h => ?_) (fun cdv A outer s H vs Q E hr h => ?_)
  · obtain ⟨S, D, vc, z, b, C, rfl, _⟩ := h
    rfl
  · obtain ⟨S, D, vc, z, b, C, rfl, d, hC, okC, q⟩ := h
    refine ⟨_, PSs.nox (pss_cons (ps_set (i := 3) sc__law_some_ranks.nd rfl (Or.inl rfl) (pe_callTy call_list_of (by rfl) T.b_list (by decide +kernel) (pa_cons (pe_d D__law_longest (hr.mono (by decide)) (by rfl) (pa_cons (pv 1) (pa_cons (pv 2) pa_nil))) pa_nil)))
      (pss_cons (ps_set (i := 4) sc__law_some_ranks.nd rfl (Or.inl rfl) (pe_d D__law_draw (hr.mono (by decide)) (by rfl) (pa_cons (pv 0) (pa_cons pe_int pa_nil))))
      (pss_cons (ps_set (i := 5) sc__law_some_ranks.nd rfl (Or.inl rfl) (pe_d D__law_draw (hr.mono (by decide)) (by rfl) (pa_cons (pv 0) (pa_cons (pe_callB call_len (by rfl) T.b_len (by decide +kernel) (pa_cons (pv 3) pa_nil)) pa_nil))))
      (Evl.pss_cut (ps_if (pt_cmpR op_eq (pv 4) pe_int (nomark _)) (pss_cons (ps_set (i := 6) sc__law_some_ranks.nd rfl (Or.inr rfl) (pe_d D__law_pick (hr.mono (by decide)) (by rfl) (pa_cons (pv 0) (pa_cons (pe_lst (pa_cons pe_int (pa_cons pe_int (pa_cons (pe_op op_pow pe_int pe_int) pa_nil)))) pa_nil))))
      (pss_one (ps_setLc (i := 3) (own := [("rank", 7)]) (g := (gName 7)) (tt := tYes) rfl sc__law_some_ranks.nd rfl rfl (sw_true rfl rfl rfl (by decide +kernel)) (pi_list (pv 3)) (blkOk_by (N := N__law_some_ranks) (sc := defScope s__law_some_ranks) (by decide +kernel)) (fun _ _ _ _ _ => (pg_name (i := 7) sc__law_some_ranks.nd rfl (Or.inl rfl))) (fun _ _ _ _ _ => pts_nil) (fun _ _ _ _ _ => (pe_op op_mul (pv 6) (pv 7)))))) pss_nil)
      (Evl.pss_cut (ps_if (pt_cmpR op_eq (pv 4) pe_int (nomark _)) (pss_one (ps_setLc (i := 3) (own := [("rank", 7)]) (g := (gName 7)) (tt := tYes) rfl sc__law_some_ranks.nd rfl rfl (sw_true rfl rfl rfl (by decide +kernel)) (pi_list (pv 3)) (blkOk_by (N := N__law_some_ranks) (sc := defScope s__law_some_ranks) (by decide +kernel)) (fun _ _ _ _ _ => (pg_name (i := 7) sc__law_some_ranks.nd rfl (Or.inl rfl))) (fun _ _ _ _ _ => pts_nil) (fun _ _ _ _ _ => (pe_op op_add (pv 7) (pe_op op_mul pe_int (pe_callTy call_int1 (by rfl) T.b_int (by decide +kernel) (pa_cons (pe_cmpR op_gt (pv 7) pe_int (nomark _)) pa_nil))))))) pss_nil)
      (Evl.pss_cut (ps_if (PW.pt (pw_or (pt_cmpR op_eq (pv 4) pe_int (nomark _)) (pw_or1 (pt_cmpR op_eq (pv 4) pe_int (nomark _))))) (pss_one (ps_asg (pe_d D__law_pick (hr.mono (by decide)) (by rfl) (pa_cons (pv 0) (pa_cons (pe_lst (pa_cons (pe_un un_neg pe_int) (pa_cons pe_int (pa_cons pe_int (pa_cons pe_int (pa_cons (pe_un un_neg pe_int) (pa_cons (pe_op op_add (pe_ix ix_list (pv 3) (pv 5) (fun _ _ => rfl)) pe_int) (pa_cons (pe_op op_sub (pe_ix ix_list (pv 3) (pv 5) (fun _ _ => rfl)) pe_int) pa_nil)))))))) pa_nil))) (pg_sub (pv 3) (pv 5) set_list))) pss_nil)
      (Evl.pss_cut (ps_if (pt_cmpR op_eq (pv 4) pe_int (nomark _)) (pss_one (ps_set (i := 3) sc__law_some_ranks.nd rfl (Or.inl rfl) (pe_d D__law_pick (hr.mono (by decide)) (by rfl) (pa_cons (pv 0) (pa_cons (pe_lst (pa_cons (pe_slice sl_list (pv 3) po_none (po_some (pv 5))) (pa_cons (pe_op op_cat (pv 3) (pe_lst (pa_cons pe_int pa_nil))) (pa_cons (pe_lst pa_nil) pa_nil)))) pa_nil))))) pss_nil)
      (Evl.pss_cut (ps_if (pt_cmpR op_eq (pv 4) pe_int (nomark _)) (pss_one (ps_set (i := 3) sc__law_some_ranks.nd rfl (Or.inl rfl) (pe_d D__law_pick (hr.mono (by decide)) (by rfl) (pa_cons (pv 0) (pa_cons (pe_lst (pa_cons (pe_lc (own := [("rank", 7)]) (g := (gName 7)) (tt := tYes) rfl sc__law_some_ranks.nd (pi_list (pv 3)) (blkOk_by (N := N__law_some_ranks) (sc := defScope s__law_some_ranks) (by decide +kernel)) (fun _ _ _ _ _ => (pg_name (i := 7) sc__law_some_ranks.nd rfl (Or.inl rfl))) (fun _ _ _ _ _ => pts_nil) (fun _ _ _ _ _ => pe_int)) (pa_cons (pe_lc (own := [("rank", 7)]) (g := (gName 7)) (tt := tYes) rfl sc__law_some_ranks.nd (pi_list (pv 3)) (blkOk_by (N := N__law_some_ranks) (sc := defScope s__law_some_ranks) (by decide +kernel)) (fun _ _ _ _ _ => (pg_name (i := 7) sc__law_some_ranks.nd rfl (Or.inl rfl))) (fun _ _ _ _ _ => pts_nil) (fun _ _ _ _ _ => pe_int)) (pa_cons (pe_revL (pv 3)) pa_nil)))) pa_nil))))) pss_nil)
      (pss_one (ps_ret (pe_callTy call_tuple_of (by rfl) T.b_tuple (by decide +kernel) (pa_cons (pv 3) pa_nil)))))))))))), ?_⟩
    have few := okC.few
    have pos := okC.pos
    refine ⟨_, rfl, _, rfl, vc, z, b, C, rfl, hC, okC, fun H1 p s1 hp => ⟨p, _, rfl, .inr (SqT.of hp), fun L hL => ?_⟩⟩
    have rl := rk_nx (C := C) (z := z)
    have rb : ∀ e ∈ rk (nx C z), e ≤ 50 := fun e he => by
      have h1 := rk_le he
      have : (nx C z).length = C.length := by unfold nx; rw [List.length_map]
      omega
    have em : (rk (nx C z)).map vN = ((rk (nx C z)).map fun n : Nat => (n : Int)).map V.int := by rw [List.map_map]; rfl
    rw [em]
    obtain ⟨ks0, hk0⟩ : ∃ ks0, ks0 = (rk (nx C z)).map fun n : Nat => (n : Int) := ⟨_, rfl⟩
    have kl0 : ks0.length = C.length := by rw [hk0, List.length_map, rl]
    have kb0 : ∀ k ∈ ks0, 0 ≤ k ∧ k ≤ 50 := fun k hk => by
      rw [hk0] at hk
      obtain ⟨n, hn, rfl⟩ := List.mem_map.mp hk
      have := rb n hn
      omega
    rw [← hk0]
    have g1 := Go.same d s1
    have g2 := g1.trans (Go.new (o := .lst (ks0.map V.int)) g1.1 hL)
    have hL2 := upd_same (H := H1) (a := L) (o := .lst (ks0.map V.int))
    have hL0 : H L = none := g1.free d hL
    generalize upd H1 L (.lst (ks0.map V.int)) = H2 at g2 hL2
    have LD := (d.free hL0).1
    refine ⟨_, rfl, S, D, 9, rfl, divW_of (by decide) (by decide), g2.1, fun H3 way w0 w1 g3 => ?_⟩
    have hL3 := g3.2 _ _ hL2 LD
    have g3 := g2.trans g3
    refine ⟨_, rfl, _, rfl, _, _, rfl, .inl ⟨_, SqL.of hL3, rfl⟩, S, D, _, rfl, divW_of (by rw [List.length_map]; omega) (by rw [List.length_map]; omega), g3.1, fun H4 sv s0 sl g4 => ?_⟩
    rw [List.length_map] at sl
    obtain ⟨sN, rfl⟩ : ∃ k : Nat, sv = (k : Int) := ⟨sv.toNat, by omega⟩
    have hL4 := g4.2 _ _ hL3 LD
    have g4 := g3.trans g4
    have setk : ∀ {H6 : Hp}, Go S D H H6 → ∀ {R : Addr} (ks : List Int), H6 R = none → ∀ {H7 : Hp}, Same H6 H7 → H7 R = some (.lst (ks.map V.int)) → Go S D H H7 ∧ H R = none := fun g6 R ks hR H7 s hR7 => ⟨g6.trans (Go.same g6.1 s), g6.free d hR⟩
    refine ⟨fun σ' H' => ∃ (L : Addr) (ks : List Int) (y6 : Option V), σ' = [some (.ref D), some vc, some (.str z), some (.ref L), some (.int way), some (.int (sN : Int)), y6, none] ∧ Go S D H H' ∧ H L = none ∧ H' L = some (.lst (ks.map V.int)) ∧ ks.length = C.length, ?_, ?_⟩
    · refine ⟨_, rfl, rfl, _, rfl, ite2 (fun _ => ?_) (fun _ => ⟨L, ks0, _, rfl, g4, hL0, hL4, kl0⟩)⟩
      refine ⟨_, rfl, _, _, rfl, rfl, ⟨by decide, by decide, by decide⟩, z3, fun Lp hLp => ?_⟩
      have g5 := g4.trans (Go.new (o := .lst [.int 2, .int 2, .int (10 ^ (30 : Int).toNat)]) g4.1 hLp)
      have hp5 := upd_same (H := H4) (a := Lp) (o := .lst [.int 2, .int 2, .int (10 ^ (30 : Int).toNat)])
      have hL5 := same_new (o := .lst [.int 2, .int 2, .int (10 ^ (30 : Int).toNat)]) hLp _ _ hL4
      have pD := (g4.1.free hLp).1
      generalize upd H4 Lp (.lst [.int 2, .int 2, .int (10 ^ (30 : Int).toNat)]) = H5 at g5 hp5 hL5
      refine ⟨S, D, .ref Lp, _, rfl, g5.1, fun H' g' => .inr (.inl ⟨Lp, rfl, SqL.of (g'.2 _ _ hp5 pD)⟩), by show 0 < 3; decide, by show 3 ≤ 100000; decide, fun H6 x hx g6 => ?_⟩
      obtain ⟨sz, rfl⟩ : ∃ sz, x = .int sz := by
        simp only [List.mem_cons, List.not_mem_nil, or_false] at hx
        rcases hx with h | h | h <;> exact ⟨_, h⟩
      have hL6 := g6.2 _ _ hL5 LD
      have g6 := g5.trans g6
      refine ⟨_, rfl, L, rfl, ⟨_, SqL.of hL6⟩, fun R hR => lc_list (K := K) (a := L) (xs := ks0.map V.int) (fun j H' => Same H6 H' ∧ H' R = some (.lst (((ks0.take j).map fun k => sz * k).map V.int))) ⟨same_new hR, upd_same⟩ (fun j H' _ e => SqL.of (e.1 _ _ hL6)) ?_ ?_⟩
      · rintro j y H7 hj ⟨s7, hR7⟩
        obtain ⟨k, rfl, hk⟩ := getV hj
        have jl := (List.getElem?_eq_some_iff.mp hk).1
        have kb := kb0 k (List.mem_of_getElem? hk)
        refine ⟨rfl, _, rfl, _, rfl, _, _, rfl, rfl, .inr ⟨by omega, by omega⟩, _, hR7, by rw [List.length_map, List.length_map, List.length_take]; exact line6 (by omega), same_mut s7 hR, ?_⟩
        rw [upd_same, ← take_map_succ (f := fun k => sz * k) hk, List.map_append]
        rfl
      · rintro H7 ⟨s7, hR7⟩
        rw [List.length_map, List.take_length] at hR7
        obtain ⟨g7, R0⟩ := setk g6 _ hR s7 hR7
        exact ⟨R, _, _, rfl, g7, R0, hR7, by rw [List.length_map]; exact kl0⟩
    · rintro σ' H5 ⟨L, ks, y6, rfl, g5, hL0, hL5, kl⟩
      have LD := (d.free hL0).1
      refine ⟨fun σ' H' => ∃ (L : Addr) (ks : List Int) (y6 : Option V), σ' = [some (.ref D), some vc, some (.str z), some (.ref L), some (.int way), some (.int (sN : Int)), y6, none] ∧ Go S D H H' ∧ H L = none ∧ H' L = some (.lst (ks.map V.int)) ∧ ks.length = C.length, ?_, ?_⟩
      · refine ⟨_, rfl, rfl, _, rfl, ite2 (fun _ => ?_) (fun _ => ⟨L, ks, _, rfl, g5, hL0, hL5, kl⟩)⟩
        refine ⟨_, rfl, L, rfl, ⟨_, SqL.of hL5⟩, fun R hR => lc_list (K := K) (a := L) (xs := ks.map V.int) (fun j H' => Same H5 H' ∧ ∃ rs : List Int, H' R = some (.lst (rs.map V.int)) ∧ rs.length = j) ⟨same_new hR, [], upd_same, rfl⟩ (fun j H' _ e => SqL.of (e.1 _ _ hL5)) ?_ ?_⟩
        · rintro j y H7 hj ⟨s7, rs, hR7, rl7⟩
          obtain ⟨k, rfl, hk⟩ := getV hj
          have jl := (List.getElem?_eq_some_iff.mp hk).1
          have fin : ∀ c : Int, ∃ acc, H7 R = some (.lst acc) ∧ acc.length < sizeLine ∧ Same H5 (upd H7 R (.lst (acc ++ [.int (k + c)]))) ∧ ∃ rs : List Int, upd H7 R (.lst (acc ++ [.int (k + c)])) R = some (.lst (rs.map V.int)) ∧ rs.length = j + 1 := fun c => ⟨_, hR7, by rw [List.length_map]; exact line6 (by omega), same_mut s7 hR, rs ++ [k + c], by rw [upd_same, List.map_append]; rfl, by rw [List.length_append, List.length_singleton, rl7]⟩
          exact ⟨rfl, _, rfl, _, rfl, _, _, rfl, rfl, .inr ⟨_, rfl, _, _, rfl, rfl, .inl ⟨by decide, by decide⟩, _, _, rfl, rfl, fin _⟩⟩
        · rintro H7 ⟨s7, rs, hR7, rl7⟩
          rw [List.length_map] at rl7
          obtain ⟨g7, R0⟩ := setk g5 _ hR s7 hR7
          exact ⟨R, _, _, rfl, g7, R0, hR7, by omega⟩
      rintro σ' H6 ⟨L, ks, y6, rfl, g6, hL0, hL6, kl⟩
      have LD := (d.free hL0).1
      have six : sN < ks.length := by omega
      have ats : atI (ks.map V.int) (sN : Int) = some (.int ks[sN]) := atI_nat (by rw [List.getElem?_map, List.getElem?_eq_getElem six]; rfl)
      refine ⟨fun σ' H' => ∃ (L : Addr) (ks : List Int) (y6 : Option V), σ' = [some (.ref D), some vc, some (.str z), some (.ref L), some (.int way), some (.int (sN : Int)), y6, none] ∧ Go S D H H' ∧ H L = none ∧ H' L = some (.lst (ks.map V.int)) ∧ ks.length = C.length, ?_, ?_⟩
      · refine ⟨_, rfl, rfl, _, rfl, ite2 (fun _ => ite2 (fun _ => ?_) (fun h => absurd rfl h)) (fun _ => ⟨_, rfl, rfl, _, rfl, ite2 (fun _ => ?_) (fun _ => ⟨L, ks, _, rfl, g6, hL0, hL6, kl⟩)⟩)⟩
        all_goals
          refine ⟨_, rfl, _, rfl, _, rfl, _, rfl, _, rfl, L, _, _, _, rfl, rfl, SqL.of hL6, ats, _, _, rfl, rfl, _, rfl, _, rfl, L, _, _, _, rfl, rfl, SqL.of hL6, ats, _, _, rfl, rfl, by show 7 ≤ sizeLine; decide, fun Lp hLp => ?_⟩
          have g7 := Go.new (o := .lst [.int (-1), .int 0, .int 1, .int 400, .int (-1000000), .int (ks[sN] + 1), .int (ks[sN] - 1)]) g6.1 hLp
          have hp7 := upd_same (H := H6) (a := Lp) (o := .lst [.int (-1), .int 0, .int 1, .int 400, .int (-1000000), .int (ks[sN] + 1), .int (ks[sN] - 1)])
          have pD := (g6.1.free hLp).1
          generalize upd H6 Lp (.lst [.int (-1), .int 0, .int 1, .int 400, .int (-1000000), .int (ks[sN] + 1), .int (ks[sN] - 1)]) = H7 at g7 hp7
          refine ⟨S, D, .ref Lp, _, rfl, g7.1, fun H' g' => .inr (.inl ⟨Lp, rfl, SqL.of (g'.2 _ _ hp7 pD)⟩), by show 0 < 7; decide, by show 7 ≤ 100000; decide, fun H8 x hx g8 => ?_⟩
          obtain ⟨v, rfl⟩ : ∃ v, x = .int v := by
            simp only [List.mem_cons, List.not_mem_nil, or_false] at hx
            rcases hx with h | h | h | h | h | h | h <;> exact ⟨_, h⟩
          have g8 := g7.trans g8
          refine ⟨_, rfl, _, rfl, L, _, _, sN, rfl, rfl, g8.2 _ _ hL6 LD, Evl.ixN_nat (by rw [List.length_map]; omega), ?_⟩
          exact ⟨L, ks.set sN v, _, rfl, goU hL0 d (g6.trans g8), hL0, by rw [upd_same, List.map_set], by rw [List.length_set]; exact kl⟩
      rintro σ' H7 ⟨L, ks, y6, rfl, g7, hL0, hL7, kl⟩
      have LD := (d.free hL0).1
      refine ⟨fun σ' H' => ∃ (L : Addr) (ks : List Int) (y6 : Option V), σ' = [some (.ref D), some vc, some (.str z), some (.ref L), some (.int way), some (.int (sN : Int)), y6, none] ∧ Go S D H H' ∧ H L = none ∧ H' L = some (.lst (ks.map V.int)) ∧ ks.length ≤ 60, ?_, ?_⟩
      · refine ⟨_, rfl, rfl, _, rfl, ite2 (fun _ => ?_) (fun _ => ⟨L, ks, _, rfl, g7, hL0, hL7, by omega⟩)⟩
        refine ⟨_, rfl, _, rfl, noP ⟨_, rfl, _, rfl, L, _, rfl, SqL.of hL7, fun p1 hp1 => ?_⟩⟩
        obtain ⟨c1, e1, l1⟩ : ∃ c1 : List Int, cutV (ks.map V.int) none (some (sN : Int)) = c1.map V.int ∧ c1.length ≤ ks.length := by
          refine ⟨(ks.drop (HT.sIx (ks.map V.int).length 0 none)).take (HT.sIx (ks.map V.int).length (ks.map V.int).length (some (sN : Int)) - HT.sIx (ks.map V.int).length 0 none), ?_, ?_⟩
          · rw [List.map_take, List.map_drop]
            rfl
          · rw [List.length_take, List.length_drop]
            omega
        rw [e1]
        have s1' := same_new (o := .lst (c1.map V.int)) hp1
        have h1' := upd_same (H := H7) (a := p1) (o := .lst (c1.map V.int))
        generalize upd H7 p1 (.lst (c1.map V.int)) = Ha at s1' h1'
        refine ⟨_, rfl, z1, fun p2 hp2 => ?_⟩
        have s2' := s1'.trans (same_new (o := .lst [.int 1]) hp2)
        have h2' := upd_same (H := Ha) (a := p2) (o := .lst [.int 1])
        have h1' := same_new (o := .lst [.int 1]) hp2 _ _ h1'
        generalize upd Ha p2 (.lst [.int 1]) = Hb at s2' h1' h2'
        refine ⟨L, p2, _, _, rfl, rfl, s2' _ _ hL7, h2', line5 (by rw [List.length_map]; show ks.length + 1 ≤ _; omega), fun p3 hp3 => ?_⟩
        have s3' := s2'.trans (same_new (o := .lst (ks.map V.int ++ [.int 1])) hp3)
        have h3' := upd_same (H := Hb) (a := p3) (o := .lst (ks.map V.int ++ [.int 1]))
        have h1' := same_new (o := .lst (ks.map V.int ++ [.int 1])) hp3 _ _ h1'
        generalize upd Hb p3 (.lst (ks.map V.int ++ [.int 1])) = Hc at s3' h1' h3'
        refine ⟨Nat.zero_le _, fun p4 hp4 => ⟨z3, fun p5 hp5 => ?_⟩⟩
        have s4' := s3'.trans (same_new (o := .lst []) hp4)
        have h4' := upd_same (H := Hc) (a := p4) (o := .lst [])
        have h1' := same_new (o := .lst []) hp4 _ _ h1'
        have h3' := same_new (o := .lst []) hp4 _ _ h3'
        generalize upd Hc p4 (.lst []) = Hd at s4' h1' h3' h4' hp5
        have s5' := s4'.trans (same_new (o := .lst [.ref p1, .ref p3, .ref p4]) hp5)
        have h5' := upd_same (H := Hd) (a := p5) (o := .lst [.ref p1, .ref p3, .ref p4])
        have h1' := same_new (o := .lst [.ref p1, .ref p3, .ref p4]) hp5 _ _ h1'
        have h3' := same_new (o := .lst [.ref p1, .ref p3, .ref p4]) hp5 _ _ h3'
        have h4' := same_new (o := .lst [.ref p1, .ref p3, .ref p4]) hp5 _ _ h4'
        have g5' := Go.same g7.1 s5'
        have f1 := g7.free d hp1
        have f3 := (g7.trans (Go.same g7.1 s2')).free d hp3
        have f4 := (g7.trans (Go.same g7.1 s3')).free d hp4
        have f5 := (g7.trans (Go.same g7.1 s4')).free d hp5
        have p5D := (d.free f5).1
        generalize upd Hd p5 (.lst [.ref p1, .ref p3, .ref p4]) = He at s5' h1' h3' h4' h5' g5'
        refine ⟨S, D, .ref p5, _, rfl, g5'.1, fun H' g' => .inr (.inl ⟨p5, rfl, SqL.of (g'.2 _ _ h5' p5D)⟩), by show 0 < 3; decide, by show 3 ≤ 100000; decide, fun H8 x hx g8 => ?_⟩
        have g8' := g7.trans (g5'.trans g8)
        simp only [List.mem_cons, List.not_mem_nil, or_false] at hx
        rcases hx with rfl | rfl | rfl
        · exact ⟨p1, c1, _, rfl, g8', f1, g8.2 _ _ h1' (d.free f1).1, by omega⟩
        · exact ⟨p3, ks ++ [1], _, rfl, g8', f3, by rw [List.map_append]; exact g8.2 _ _ h3' (d.free f3).1, by rw [List.length_append, List.length_singleton]; omega⟩
        · exact ⟨p4, [], _, rfl, g8', f4, g8.2 _ _ h4' (d.free f4).1, Nat.zero_le _⟩
      rintro σ' H8 ⟨L, ks, y6, rfl, g8, hL0, hL8, kl⟩
      have LD := (d.free hL0).1
      refine ⟨fun σ' H' => ∃ (L : Addr) (ks : List Int) (y6 : Option V), σ' = [some (.ref D), some vc, some (.str z), some (.ref L), some (.int way), some (.int (sN : Int)), y6, none] ∧ Go S D H H' ∧ H L = none ∧ H' L = some (.lst (ks.map V.int)) ∧ ks.length ≤ 60, ?_, ?_⟩
      · refine ⟨_, rfl, rfl, _, rfl, ite2 (fun _ => ?_) (fun _ => ⟨L, ks, _, rfl, g8, hL0, hL8, kl⟩)⟩
        refine ⟨_, rfl, _, rfl, L, rfl, ⟨_, SqL.of hL8⟩, fun p1 hp1 => lc_list (K := K) (a := L) (xs := ks.map V.int) (fun j H' => Same H8 H' ∧ ∃ rs : List Int, H' p1 = some (.lst (rs.map V.int)) ∧ rs.length = j) ⟨same_new hp1, [], upd_same, rfl⟩ (fun j H' _ e => SqL.of (e.1 _ _ hL8)) ?_ ?_⟩
        · rintro j y H9 hj ⟨s9, rs, h9, rl9⟩
          have jl := (List.getElem?_eq_some_iff.mp hj).1
          rw [List.length_map] at jl
          exact ⟨rfl, _, h9, by rw [List.length_map]; exact line6 (by omega), same_mut s9 hp1, rs ++ [1], by rw [upd_same, List.map_append]; rfl, by rw [List.length_append, List.length_singleton, rl9]⟩
        rintro H9 ⟨s9, c1, h1', l1⟩
        rw [List.length_map] at l1
        refine ⟨_, rfl, L, rfl, ⟨_, SqL.of (s9 _ _ hL8)⟩, fun p3 hp3 => lc_list (K := K) (a := L) (xs := ks.map V.int) (fun j H' => Same H9 H' ∧ ∃ rs : List Int, H' p3 = some (.lst (rs.map V.int)) ∧ rs.length = j) ⟨same_new hp3, [], upd_same, rfl⟩ (fun j H' _ e => SqL.of (e.1 _ _ (s9 _ _ hL8))) ?_ ?_⟩
        · rintro j y H10 hj ⟨s10, rs, h10, rl10⟩
          have jl := (List.getElem?_eq_some_iff.mp hj).1
          rw [List.length_map] at jl
          exact ⟨rfl, _, h10, by rw [List.length_map]; exact line6 (by omega), same_mut s10 hp3, rs ++ [0], by rw [upd_same, List.map_append]; rfl, by rw [List.length_append, List.length_singleton, rl10]⟩
        rintro H10 ⟨s10, c3, h3', l3⟩
        rw [List.length_map] at l3
        have h1' := s10 _ _ h1'
        refine ⟨_, rfl, L, _, rfl, SqL.of (s10 _ _ (s9 _ _ hL8)), fun p4 hp4 => ⟨z3, fun p5 hp5 => ?_⟩⟩
        rw [← List.map_reverse] at *
        have s11 := s10.trans (same_new (o := .lst (ks.reverse.map V.int)) hp4)
        have h4' := upd_same (H := H10) (a := p4) (o := .lst (ks.reverse.map V.int))
        have h1' := same_new (o := .lst (ks.reverse.map V.int)) hp4 _ _ h1'
        have h3' := same_new (o := .lst (ks.reverse.map V.int)) hp4 _ _ h3'
        generalize upd H10 p4 (.lst (ks.reverse.map V.int)) = H11 at s11 h1' h3' h4' hp5
        have s12 := (s9.trans s11).trans (same_new (o := .lst [.ref p1, .ref p3, .ref p4]) hp5)
        have h5' := upd_same (H := H11) (a := p5) (o := .lst [.ref p1, .ref p3, .ref p4])
        have h1' := same_new (o := .lst [.ref p1, .ref p3, .ref p4]) hp5 _ _ h1'
        have h3' := same_new (o := .lst [.ref p1, .ref p3, .ref p4]) hp5 _ _ h3'
        have h4' := same_new (o := .lst [.ref p1, .ref p3, .ref p4]) hp5 _ _ h4'
        have g12 := Go.same g8.1 s12
        have f1 := g8.free d hp1
        have f3 := (g8.trans (Go.same g8.1 s9)).free d hp3
        have f4 := (g8.trans (Go.same g8.1 (s9.trans s10))).free d hp4
        have f5 := (g8.trans (Go.same g8.1 (s9.trans s11))).free d hp5
        have p5D := (d.free f5).1
        generalize upd H11 p5 (.lst [.ref p1, .ref p3, .ref p4]) = H12 at s12 h1' h3' h4' h5' g12
        refine ⟨S, D, .ref p5, _, rfl, g12.1, fun H' g' => .inr (.inl ⟨p5, rfl, SqL.of (g'.2 _ _ h5' p5D)⟩), by show 0 < 3; decide, by show 3 ≤ 100000; decide, fun H13 x hx g13 => ?_⟩
        have g13' := g8.trans (g12.trans g13)
        simp only [List.mem_cons, List.not_mem_nil, or_false] at hx
        rcases hx with rfl | rfl | rfl
        · exact ⟨p1, c1, _, rfl, g13', f1, g13.2 _ _ h1' (d.free f1).1, by omega⟩
        · exact ⟨p3, c3, _, rfl, g13', f3, g13.2 _ _ h3' (d.free f3).1, by omega⟩
        · exact ⟨p4, ks.reverse, _, rfl, g13', f4, g13.2 _ _ h4' (d.free f4).1, by rw [List.length_reverse]; exact kl⟩
      rintro σ' H9 ⟨L, ks, y6, rfl, g9, hL0, hL9, kl⟩
      refine ⟨_, rfl, L, _, rfl, .inl ⟨SqL.of hL9, fun p hp => ?_⟩⟩
      exact q _ _ (g9.trans (Go.new g9.1 hp)) ⟨p, ks, rfl, SqT.of upd_same, by omega⟩
end
end Mt
namespace Mt
open PySem PySem.Spec PyProof.Rows L2
theorem nodup_lt : ∀ (n : Nat) {l : List Nat}, l.Nodup → (∀ x ∈ l, x < n) → l.length ≤ n
  | 0, l, _, h => by
    cases l with
    | nil => exact Nat.le_refl _
    | cons x r => exact absurd (h x List.mem_cons_self) (Nat.not_lt_zero x)
  | n + 1, l, nd, h => by
    have h2 := nodup_lt n (l := l.erase n) (nd.erase n) fun x hx => by
      have h3 := h x (List.mem_of_mem_erase hx)
      have : x ≠ n := fun e => by
        subst e
        exact (List.Nodup.not_mem_erase nd) hx
      omega
    by_cases k : n ∈ l
    · rw [List.length_erase_of_mem k] at h2
      omega
    · rw [List.erase_of_not_mem k] at h2
      omega
def kS (s : Nat) : L2.Key := .inl (s : Int)
theorem kS_inj {a b : Nat} (h : kS a = kS b) : a = b := by
  have := Sum.inl.inj h
  omega
/-- a dict with states as keys -/
structure KD (n : Nat) (kvs : List (L2.Key × V)) (ks : List Nat) (R : Nat → V → Prop) : Prop where
  keys : kvs.map (·.1) = ks.map kS
  nd : ks.Nodup
  lt : ∀ s ∈ ks, s < n
  val : ∀ s ∈ ks, ∃ v, valV kvs (kS s) = some v ∧ R s v
theorem KD.nil {n : Nat} {R : Nat → V → Prop} : KD n [] [] R := ⟨rfl, List.nodup_nil, fun _ h => absurd h List.not_mem_nil, fun _ h => absurd h List.not_mem_nil⟩
theorem KD.len {n : Nat} {kvs : List (L2.Key × V)} {ks : List Nat} {R : Nat → V → Prop} (h : KD n kvs ks R) : kvs.length = ks.length := by
  have := congrArg List.length h.keys
  rw [List.length_map, List.length_map] at this
  exact this
theorem KD.few {n : Nat} {kvs : List (L2.Key × V)} {ks : List Nat} {R : Nat → V → Prop} (h : KD n kvs ks R) : ks.length ≤ n := nodup_lt n h.nd h.lt
theorem KD.mono {n : Nat} {kvs : List (L2.Key × V)} {ks : List Nat} {R R' : Nat → V → Prop} (h : KD n kvs ks R) (m : ∀ s v, s ∈ ks → R s v → R' s v) : KD n kvs ks R' :=
  ⟨h.keys, h.nd, h.lt, fun s hs => let ⟨v, e, r⟩ := h.val s hs; ⟨v, e, m s v hs r⟩⟩
theorem KD.any {n : Nat} {kvs : List (L2.Key × V)} {ks : List Nat} {R : Nat → V → Prop} (h : KD n kvs ks R) (s : Nat) : (kvs.any fun kv => decide (kv.1 = kS s)) = decide (s ∈ ks) := by
  by_cases c : s ∈ ks
  · rw [decide_eq_true c]
    have : kS s ∈ kvs.map (·.1) := by
      rw [h.keys]
      exact List.mem_map.mpr ⟨s, c, rfl⟩
    obtain ⟨kv, hkv, e⟩ := List.mem_map.mp this
    exact List.any_eq_true.mpr ⟨kv, hkv, decide_eq_true e⟩
  · rw [decide_eq_false c]
    refine Bool.eq_false_iff.mpr fun z => c ?_
    obtain ⟨kv, hkv, e⟩ := List.any_eq_true.mp z
    have : kv.1 ∈ ks.map kS := by
      rw [← h.keys]
      exact List.mem_map.mpr ⟨kv, hkv, rfl⟩
    obtain ⟨a, ha, e2⟩ := List.mem_map.mp this
    rw [of_decide_eq_true e] at e2
    exact kS_inj e2 ▸ ha
theorem KD.is {n : Nat} {kvs : List (L2.Key × V)} {ks : List Nat} {R : Nat → V → Prop} (h : KD n kvs ks R) (s : Nat) : (valV kvs (kS s)).isSome = decide (s ∈ ks) := by
  rw [← h.any s, valV_any]
def addK (ks : List Nat) (s : Nat) : List Nat := if s ∈ ks then ks else ks ++ [s]
theorem mem_addK {ks : List Nat} {s x : Nat} : x ∈ addK ks s ↔ x ∈ ks ∨ x = s := by
  unfold addK
  split
  · rename_i c
    constructor
    · exact .inl
    · rintro (h | rfl)
      · exact h
      · exact c
  · rw [List.mem_append, List.mem_singleton]
theorem KD.put {n : Nat} {kvs : List (L2.Key × V)} {ks : List Nat} {R : Nat → V → Prop} (h : KD n kvs ks R) {s : Nat} {v : V} (hs : s < n) (hv : R s v) : KD n (putK kvs (kS s) v) (addK ks s) R := by
  have val : ∀ x ∈ addK ks s, ∃ u, valV (putK kvs (kS s) v) (kS x) = some u ∧ R x u := fun x hx => by
    rw [valV_put]
    by_cases c : x = s
    · subst c
      exact ⟨v, if_pos rfl, hv⟩
    · rw [if_neg fun z => c (kS_inj z)]
      exact h.val x ((mem_addK.mp hx).resolve_right c)
  have ha := h.any s
  by_cases c : s ∈ ks
  · rw [decide_eq_true c] at ha
    have e : addK ks s = ks := if_pos c
    rw [e] at val ⊢
    refine ⟨?_, h.nd, h.lt, val⟩
    unfold putK
    rw [if_pos ha, List.map_map, ← h.keys]
    refine List.map_congr_left fun kv _ => ?_
    show (if kv.1 = kS s then (kv.1, v) else kv).1 = kv.1
    split <;> rfl
  · rw [decide_eq_false c] at ha
    have e : addK ks s = ks ++ [s] := if_neg c
    rw [e] at val ⊢
    refine ⟨?_, ?_, fun x hx => ?_, val⟩
    · unfold putK
      rw [if_neg (by rw [ha]; decide), List.map_append, List.map_append, h.keys]
      rfl
    · refine List.nodup_append.mpr ⟨h.nd, List.nodup_cons.mpr ⟨List.not_mem_nil, List.nodup_nil⟩, fun a ha b hb e => ?_⟩
      rw [List.mem_singleton.mp hb] at e
      subst e
      exact c ‹_›
    · rcases List.mem_append.mp hx with k | k
      · exact h.lt x k
      · rw [List.mem_singleton.mp k]
        exact hs
theorem KD.at_ {n : Nat} {kvs : List (L2.Key × V)} {ks : List Nat} {R : Nat → V → Prop} (h : KD n kvs ks R) {i : Nat} {k : L2.Key} {v : V} (e : kvs[i]? = some (k, v)) : ∃ s, ks[i]? = some s ∧ k = kS s := by
  have h1 : (kvs.map (·.1))[i]? = some k := by rw [List.getElem?_map, e]; rfl
  rw [h.keys, List.getElem?_map] at h1
  obtain ⟨s, h2, h3⟩ := Option.map_eq_some_iff.mp h1
  exact ⟨s, h2, h3.symm⟩
theorem KD.vals {n : Nat} {kvs : List (L2.Key × V)} {ks : List Nat} {R : Nat → V → Prop} (h : KD n kvs ks R) : (kvs.map fun kv => kV kv.1) = ks.map vN := by
  have e : (kvs.map fun kv => kV kv.1) = (kvs.map (·.1)).map kV := by rw [List.map_map]; rfl
  rw [e, h.keys, List.map_map]
  rfl
/-- states that no branch leads out of -/
structure Rch (C : Chn) (ks : List Nat) : Prop where
  zero : 0 ∈ ks
  nd : ks.Nodup
  lt : ∀ s ∈ ks, s < C.length
  on : ∀ s ∈ ks, ∀ b ∈ rowOf C s, b.2.2 ∈ ks
def spWays (K : PySem.W.Frag) : Sp := fun vs H Q _ => ∃ (vc : V) (b : Int) (C : Chn), vs = [vc] ∧ Dp K H vc (dChn b C) ∧ ChnOk b C ∧
  ∀ (H' : Hp) (d : Addr) (kvs : List (L2.Key × V)) (ks : List Nat), Same H H' → H d = none → H' d = some (.dK kvs) → KD C.length kvs ks (fun _ v => Wd K H' v 60) → Rch C ks → Q (.ref d) H'
section
variable {P : Program} {w : World} {K : PySem.W.Frag} {mg : Str → Option Value} {base : Heap}
set_option maxHeartbeats 1000000 in
theorem ok__law_ways_to (T : Txt K mg) {f : Addr} {fd : FuncData} (F : FnP K "_law_ways_to" s__law_ways_to f fd) : FnOk P w K mg base CX0 1 f fd ["chain"] (spWays K) := by
  refine F.ok sc__law_ways_to (fun vs H Q E h => ?_) (fun cdv A outer s H vs Q E hr h => ?_)
  · obtain ⟨vc, b, C, rfl, _⟩ := h
    rfl
  · obtain ⟨vc, b, C, rfl, hC, okC, q⟩ := h
    refine ⟨_, PSs.nox (pss_cons (ps_set (i := 1) sc__law_ways_to.nd rfl (Or.inl rfl) (pe_disp (pps_cons pe_int (pe_tup pa_nil) pps_nil) (by rfl) (by rfl) (fun z => by cases z) (by decide)))
      (pss_cons (ps_set (i := 2) sc__law_ways_to.nd rfl (Or.inl rfl) (pe_lst (pa_cons pe_int pa_nil)))
      (pss_cons (ps_set (i := 3) sc__law_ways_to.nd rfl (Or.inl rfl) pe_int)
      (pss_cons (ps_while PassesOwn.never (pt_cmpR op_lt (pv 3) (pe_callB call_len (by rfl) T.b_len (by decide +kernel) (pa_cons (pv 2) pa_nil)) (nomark _)) (pss_cons (ps_for PassesOwn.never rfl (pi_tup (pe_ix ix_tup (pe_ix ix_tup (pv 0) pe_int (fun _ _ => rfl)) (pe_ix ix_list (pv 2) (pv 3) (fun _ _ => rfl)) (fun _ _ => rfl))) (pg_tup rfl (pgs_cons (pg_name (i := 4) sc__law_ways_to.nd rfl (Or.inl rfl)) (pgs_cons (pg_name (i := 5) sc__law_ways_to.nd rfl (Or.inl rfl)) (pgs_cons (pg_name (i := 6) sc__law_ways_to.nd rfl (Or.inl rfl)) pgs_nil)))) (pss_one (ps_if (pt_cmp (pc_dnotin (hu_of hr) (pv 6) (pv 1))) (pss_cons (ps_asg (pe_op op_catA (pe_dget (hu_of hr) (pv 1) (pe_ix ix_list (pv 2) (pv 3) (fun _ _ => rfl)) (fun _ _ => rfl)) (pe_tup (pa_cons (pv 4) pa_nil))) (pg_sub (pv 1) (pv 6) (set_dict (hu_of hr))))
      (pss_one (ps_expr (pe_bm PySem.F.plainAttrs_list PySem.F.slot_list_append PySem.F.type_list_append mt_append (pv 2) (pa_cons (pv 6) pa_nil))))) pss_nil)))
      (pss_one (ps_aug (i := 3) sc__law_ways_to.nd rfl (Or.inl rfl) pe_int ip_add))))
      (pss_one (ps_ret (pv 1))))))), ?_⟩
    obtain ⟨pc, pq, xs, rfl, hpc, hpq, hA⟩ := chn_at hC
    have few := okC.few
    refine fun d hd => ⟨Nat.zero_le _, fun e he => ?_⟩
    have s1 := same_new (o := .dK []) hd
    have s2 := s1.trans (same_new (o := .tup []) he)
    have hd2 := same_new (o := .tup []) he _ _ (upd_same (H := H) (a := d) (o := .dK []))
    have we : Wd K (upd (upd H d (.dK [])) e (.tup [])) (.ref e) 1 := Wd.nil
    generalize upd (upd H d (.dK [])) e (.tup []) = H2 at s2 hd2 we
    refine ⟨hd2, [(kS 0, .ref e)], rfl, by show 1 ≤ 15; decide, ?_⟩
    have em : mergeK ([] : List (L2.Key × V)) [(kS 0, .ref e)] = [(kS 0, .ref e)] := rfl
    rw [em]
    have s3 := same_mut (o := .dK [(kS 0, .ref e)]) s2 hd
    have k3 := keepT_nt (o := .dK [(kS 0, .ref e)]) (nt_dk _) hd2
    have kd : KD C.length [(kS 0, V.ref e)] [0] (fun _ v => Wd K (upd H2 d (.dK [(kS 0, V.ref e)])) v 1) := by
      refine ⟨rfl, List.nodup_cons.mpr ⟨List.not_mem_nil, List.nodup_nil⟩, fun s hs => ?_, fun s hs => ⟨.ref e, ?_, ?_⟩⟩
      · rw [List.mem_singleton.mp hs]
        exact okC.pos
      · rw [List.mem_singleton.mp hs]
        rfl
      · exact let ⟨ws, h1, h2⟩ := we; ⟨ws, dp_keep k3 _ _ (dWs_noL ws) h1, h2⟩
    have hd3 := upd_same (H := H2) (a := d) (o := .dK [(kS 0, .ref e)])
    generalize upd H2 d (.dK [(kS 0, .ref e)]) = H3 at s3 kd hd3
    refine ⟨z1, fun L hL => ?_⟩
    have s4 := s3.trans (same_new (o := .lst [.int 0]) hL)
    have hd4 := same_new (o := .lst [.int 0]) hL _ _ hd3
    have hL4 := upd_same (H := H3) (a := L) (o := .lst [.int 0])
    have Ld : L ≠ d := (ne_of_none hd3 hL).symm
    have kd := kd.mono (R' := fun _ v => Wd K (upd H3 L (.lst [.int 0])) v 1) fun s v _ h => h.same (same_new hL)
    have hL0 : H L = none := s3.free hL
    generalize upd H3 L (.lst [.int 0]) = H4 at s4 hd4 hL4 kd
    refine ⟨fun mm σ H' => ∃ (y4 y5 y6 : Option V) (k : Nat) (kvs : List (L2.Key × V)) (ks : List Nat), mm = C.length - k ∧ σ = [some (.ref pc), some (.ref d), some (.ref L), some (vN k), y4, y5, y6] ∧ Same H H' ∧ H' d = some (.dK kvs) ∧ KD C.length kvs ks (fun _ v => Wd K H' v ks.length) ∧ H' L = some (.lst (ks.map vN)) ∧ 0 ∈ ks ∧ k ≤ ks.length ∧ ∀ s ∈ ks.take k, ∀ b ∈ rowOf C s, b.2.2 ∈ ks, ⟨_, _, _, _, 0, _, [0], rfl, rfl, s4, hd4, kd, hL4, List.mem_cons_self, Nat.zero_le _, fun _ h => absurd h List.not_mem_nil⟩, ?_⟩
    rintro mm σ H5 ⟨y4, y5, y6, k, kvs, ks, rfl, rfl, s5, hd5, kd, hL5, z0, kl, cl⟩
    have kf := kd.few
    refine ⟨_, rfl, _, rfl, _, _, rfl, .inl ⟨_, SqL.of hL5, rfl⟩, ?_⟩
    rw [List.length_map]
    refine ⟨_, _, rfl, rfl, _, rfl, ite2 (fun hlt => ?_) (fun hge => ?_)⟩
    · have hk : k < ks.length := by
        have : (k : Int) < (ks.length : Int) := of_decide_eq_true hlt
        omega
      obtain ⟨s, hs⟩ : ∃ s, ks[k]? = some s := ⟨_, List.getElem?_eq_getElem hk⟩
      have sn := kd.lt s (List.mem_of_getElem? hs)
      obtain ⟨xr, hxr, dr⟩ := dpA_get hA (rowOf_at sn)
      obtain ⟨pr, rs, rfl, hpr, hrs⟩ := dp_tup dr
      have rl := dpA_len hrs
      rw [List.length_map] at rl
      have okr := okC.row _ (List.mem_of_getElem? (rowOf_at sn))
      have atk : atI (ks.map vN) (k : Int) = some (vN s) := atI_nat (by rw [List.getElem?_map, hs]; rfl)
      refine ⟨fun σ' H' => ∃ (y4 y5 y6 : Option V) (kvs : List (L2.Key × V)) (ks : List Nat), σ' = [some (.ref pc), some (.ref d), some (.ref L), some (vN (k + 1)), y4, y5, y6] ∧ Same H H' ∧ H' d = some (.dK kvs) ∧ KD C.length kvs ks (fun _ v => Wd K H' v ks.length) ∧ H' L = some (.lst (ks.map vN)) ∧ 0 ∈ ks ∧ k + 1 ≤ ks.length ∧ ∀ s ∈ ks.take (k + 1), ∀ b ∈ rowOf C s, b.2.2 ∈ ks, fun σ' H' ⟨y4, y5, y6, kvs', ks', e1, e2⟩ => ⟨C.length - (k + 1), by omega, y4, y5, y6, k + 1, kvs', ks', rfl, e1, e2⟩, ?_⟩
      refine ⟨_, rfl, pc, _, _, _, rfl, rfl, same_t s5 hpc, atI_nat (j := 2) rfl, _, rfl, _, rfl, L, _, _, _, rfl, rfl, SqL.of hL5, atk, pq, _, _, _, rfl, rfl, same_t s5 hpq, atI_nat hxr, pr, rfl, ⟨_, same_t s5 hpr⟩, for_tup (K := K) (a := pr) (xs := rs) (fun j σ H' => ∃ (y4 y5 y6 : Option V) (kvs : List (L2.Key × V)) (ks' : List Nat), σ = [some (.ref pc), some (.ref d), some (.ref L), some (vN k), y4, y5, y6] ∧ Same H H' ∧ H' d = some (.dK kvs) ∧ KD C.length kvs ks' (fun _ v => Wd K H' v ks'.length) ∧ H' L = some (.lst (ks'.map vN)) ∧ 0 ∈ ks' ∧ k + 1 ≤ ks'.length ∧ ks'.take (k + 1) = ks.take (k + 1) ∧ (∀ x ∈ ks, x ∈ ks') ∧ ∀ b ∈ (rowOf C s).take j, b.2.2 ∈ ks') ⟨_, _, _, kvs, ks, rfl, s5, hd5, kd, hL5, z0, hk, rfl, fun _ h => h, fun _ h => absurd h List.not_mem_nil⟩ (fun j σ H' _ ⟨_, _, _, _, _, _, s, _⟩ => same_t s hpr) ?_ ?_⟩
      · rintro j y σ H6 hj ⟨y4, y5, y6, kvs', ks', rfl, s6, hd6, kd6, hL6, z6, kl6, tk6, sub6, cl6⟩
        obtain ⟨br, hbr, hy⟩ := dpA_mem (dpA_same s6 _ _ hrs) hj
        obtain ⟨pb, x0, x1, rfl, hpb, hd0, hd1⟩ := br_at hy
        have tn := (okr.to br (List.mem_of_getElem? hbr)).1
        have kf6 := kd6.few
        have kv6 := kd6.len
        refine ⟨_, _, rfl, hpb, rfl, _, _, rfl, _, _, rfl, _, _, rfl, rfl, ?_⟩
        refine ⟨_, rfl, _, rfl, d, _, rfl, DGet.k (k := kS br.2.2) hd6, _, rfl, ?_⟩
        rw [kd6.is]
        by_cases c : br.2.2 ∈ ks'
        · rw [decide_eq_true c]
          refine ite2 (fun h => (nomatch (show false = true from h))) (fun _ => ?_)
          refine ⟨_, _, _, kvs', ks', rfl, s6, hd6, kd6, hL6, z6, kl6, tk6, sub6, fun b hb => ?_⟩
          rw [take_snoc hbr] at hb
          rcases List.mem_append.mp hb with h | h
          · exact cl6 b h
          · rw [List.mem_singleton.mp h]
            exact c
        · rw [decide_eq_false c]
          refine ite2 (fun _ => ?_) (fun h => absurd rfl h)
          have hs6 : ks'[k]? = some s := by
            have e1 : (ks'.take (k + 1))[k]? = ks'[k]? := List.getElem?_take_of_lt (Nat.lt_succ_self k)
            have e2 : (ks.take (k + 1))[k]? = ks[k]? := List.getElem?_take_of_lt (Nat.lt_succ_self k)
            rw [← e1, tk6, e2, hs]
          have atk6 : atI (ks'.map vN) (k : Int) = some (vN s) := atI_nat (by rw [List.getElem?_map, hs6]; rfl)
          obtain ⟨vs', ev, wv'⟩ := kd6.val s (List.mem_of_getElem? hs6)
          refine ⟨_, rfl, _, rfl, _, rfl, L, _, _, _, rfl, rfl, SqL.of hL6, atk6, d, vs', rfl, by rw [← ev]; exact DGet.k (k := kS s) hd6, _, rfl, z1, fun e he => ?_⟩
          have s7 := same_new (o := .tup [x0]) he
          have w7 := Wd.one (K := K) hd0 he
          generalize upd H6 e (.tup [x0]) = H7 at s7 w7
          refine catW (wv'.same s7) w7 (by omega) fun nv H8 s8 w8 => ?_
          have s78 := s7.trans s8
          have hd8 := s78 _ _ hd6
          have hL8 := s78 _ _ hL6
          refine ⟨_, rfl, _, rfl, d, _, rfl, DPut.k (k := kS br.2.2) hd8 (line6 (by omega)), ?_⟩
          have k8 := keepT_nt (o := .dK (putK kvs' (kS br.2.2) nv)) (nt_dk _) hd8
          have ea : addK ks' br.2.2 = ks' ++ [br.2.2] := if_neg c
          have la : (ks' ++ [br.2.2]).length = ks'.length + 1 := by rw [List.length_append]; rfl
          have kd9 : KD C.length (putK kvs' (kS br.2.2) nv) (ks' ++ [br.2.2]) (fun _ v => Wd K (upd H8 d (.dK (putK kvs' (kS br.2.2) nv))) v (ks' ++ [br.2.2]).length) := by
            rw [la, ← ea]
            have kp : ∀ {v : V} {n : Nat}, Wd K H8 v n → n ≤ ks'.length + 1 → Wd K (upd H8 d (.dK (putK kvs' (kS br.2.2) nv))) v (ks'.length + 1) := fun h hl => let ⟨ws, h1, h2⟩ := h; ⟨ws, dp_keep k8 _ _ (dWs_noL ws) h1, Nat.le_trans h2 hl⟩
            exact (kd6.mono (R' := fun _ v => Wd K (upd H8 d (.dK (putK kvs' (kS br.2.2) nv))) v (ks'.length + 1)) fun s v _ h => kp (h.same s78) (Nat.le_succ _)).put tn (kp w8 (Nat.le_refl _))
          have hL9 : upd H8 d (.dK (putK kvs' (kS br.2.2) nv)) L = some (.lst (ks'.map vN)) := by rw [upd_ne Ld]; exact hL8
          have hd9 := upd_same (H := H8) (a := d) (o := .dK (putK kvs' (kS br.2.2) nv))
          have s9 := same_mut (o := .dK (putK kvs' (kS br.2.2) nv)) (s6.trans s78) hd
          generalize upd H8 d (.dK (putK kvs' (kS br.2.2) nv)) = H9 at kd9 hL9 hd9 s9
          refine ⟨_, rfl, .inl ⟨rfl, _, SqL.of hL9⟩, _, rfl, L, _, _, rfl, rfl, hL9, by rw [List.length_map]; exact line6 (by omega), ?_⟩
          have k9 := keepT_nt (o := .lst (ks'.map vN ++ [vN br.2.2])) (nt_lst _) hL9
          refine ⟨_, _, _, putK kvs' (kS br.2.2) nv, ks' ++ [br.2.2], rfl, same_mut s9 hL0, by rw [upd_ne Ld.symm]; exact hd9, kd9.mono fun s v _ h => ?_, by rw [upd_same, List.map_append]; rfl, List.mem_append_left _ z6, by omega, ?_, fun x hx => List.mem_append_left _ (sub6 x hx), fun b hb => ?_⟩
          · exact let ⟨ws, h1, h2⟩ := h; ⟨ws, dp_keep k9 _ _ (dWs_noL ws) h1, h2⟩
          · rw [List.take_append_of_le_length kl6, tk6]
          · rw [take_snoc hbr] at hb
            rcases List.mem_append.mp hb with h | h
            · exact List.mem_append_left _ (cl6 b h)
            · rw [List.mem_singleton.mp h]
              exact List.mem_append_right _ (List.mem_singleton.mpr rfl)
      · rintro σ H6 ⟨y4, y5, y6, kvs', ks', rfl, s6, hd6, kd6, hL6, z6, kl6, tk6, sub6, cl6⟩
        rw [rl, List.take_length] at cl6
        refine ⟨_, rfl, _, _, rfl, rfl, _, _, _, kvs', ks', rfl, s6, hd6, kd6, hL6, z6, kl6, fun x hx b hb => ?_⟩
        rw [tk6, take_snoc hs] at hx
        rcases List.mem_append.mp hx with h | h
        · exact sub6 _ (cl x h b hb)
        · rw [List.mem_singleton.mp h] at hb
          exact cl6 b hb
    · have hk : k = ks.length := by
        have : ¬ (k : Int) < (ks.length : Int) := fun h => hge (decide_eq_true h)
        omega
      rw [hk, List.take_length] at cl
      exact ⟨_, rfl, q H5 d kvs ks s5 hd hd5 (kd.mono fun s v _ h => h.up (by omega)) ⟨z0, kd.nd, kd.lt, cl⟩⟩
end
end Mt
namespace Mt
open PySem PySem.Spec PyProof.Rows L2
theorem Wd.keep {K : PySem.W.Frag} {H H' : Hp} {v : V} {n : Nat} (k : KeepT H H') (h : Wd K H v n) : Wd K H' v n := let ⟨ws, a, b⟩ := h; ⟨ws, dp_keep k _ _ (dWs_noL ws) a, b⟩
/-- where the first branch leads -/
def fstT (C : Chn) (s : Nat) : Nat := ((rowOf C s)[0]?.map (·.2.2)).getD 0
def itr (C : Chn) (s : Nat) : Nat → Nat
  | 0 => s
  | i + 1 => fstT C (itr C s i)
theorem itr_add (C : Chn) (s i : Nat) : ∀ j, itr C s (i + j) = itr C (itr C s i) j
  | 0 => rfl
  | j + 1 => by
    show fstT C (itr C s (i + j)) = fstT C (itr C (itr C s i) j)
    rw [itr_add C s i j]
theorem sub_len : ∀ {l ks : List Nat}, l.Nodup → (∀ x ∈ l, x ∈ ks) → l.length ≤ ks.length
  | [], _, _, _ => Nat.zero_le _
  | a :: t, ks, nd, h => by
    obtain ⟨n1, n2⟩ := List.nodup_cons.mp nd
    have ha := h a List.mem_cons_self
    have := sub_len (ks := ks.erase a) n2 fun x hx => (List.mem_erase_of_ne fun e => n1 (by rw [← e]; exact hx)).mpr (h x (List.mem_cons_of_mem _ hx))
    rw [List.length_erase_of_mem ha] at this
    have p := List.length_pos_of_mem ha
    rw [List.length_cons]
    omega
theorem fst_in {C : Chn} {b : Int} (ok : ChnOk b C) {s : Nat} (hs : s < C.length) : ∃ br ∈ rowOf C s, fstT C s = br.2.2 := by
  have ne := (ok.row _ (List.mem_of_getElem? (rowOf_at hs))).ne
  refine ⟨(rowOf C s)[0], List.getElem_mem ne, ?_⟩
  unfold fstT
  rw [List.getElem?_eq_getElem ne]
  rfl
/-- a state comes back to itself -/
theorem comes_back {C : Chn} {b : Int} (ok : ChnOk b C) {ks : List Nat} (r : Rch C ks) : ∃ s ∈ ks, ∃ i, 1 ≤ i ∧ i ≤ ks.length ∧ itr C s i = s := by
  have inn : ∀ i, itr C 0 i ∈ ks := fun i => by
    induction i with
    | zero => exact r.zero
    | succ i ih =>
      obtain ⟨br, hb, e⟩ := fst_in ok (r.lt _ ih)
      show fstT C (itr C 0 i) ∈ ks
      rw [e]
      exact r.on _ ih br hb
  refine Classical.byContradiction fun no => ?_
  have ne : ∀ i j, i < j → j ≤ ks.length → itr C 0 i ≠ itr C 0 j := fun i j hij hj e => no ⟨itr C 0 i, inn i, j - i, by omega, by omega, by
    rw [← itr_add, show i + (j - i) = j by omega, e]⟩
  have nd : ((List.range (ks.length + 1)).map (itr C 0)).Nodup := by
    refine List.pairwise_map.mpr ((List.pairwise_lt_range).imp_of_mem fun ha hb h => ?_)
    exact ne _ _ h (by have := List.mem_range.mp hb; omega)
  have := sub_len (ks := ks) nd fun x hx => by
    obtain ⟨i, _, rfl⟩ := List.mem_map.mp hx
    exact inn i
  rw [List.length_map, List.length_range] at this
  omega
def SumR (K : PySem.W.Frag) (H : Hp) (n : Nat) (v : V) : Prop := ∃ (p : Addr) (sz : Int) (pw : V), v = .ref p ∧ SqT K H p [.int sz, pw] ∧ sz.natAbs ≤ 594 * n ∧ Wd K H pw n
theorem SumR.keep {K : PySem.W.Frag} {H H' : Hp} {v : V} {n : Nat} (k : KeepT H H') (h : SumR K H n v) : SumR K H' n v := let ⟨p, sz, pw, a, b, c, d⟩ := h; ⟨p, sz, pw, a, sqt_keep k b, c, d.keep k⟩
def BestOk (K : PySem.W.Frag) (H : Hp) (ks : List Nat) (v : V) : Prop := ∃ (p pp : Addr) (s : Nat) (pw : V) (pace : F2), v = .ref p ∧ SqT K H p [.ref pp, vN s, pw] ∧ SqT K H pp (tupV pace) ∧ Low pace ∧ Sz 16 pace ∧ s ∈ ks ∧ Wd K H pw 60
theorem BestOk.keep {K : PySem.W.Frag} {H H' : Hp} {v : V} {ks : List Nat} (k : KeepT H H') (h : BestOk K H ks v) : BestOk K H' ks v := let ⟨p, pp, s, pw, pace, a, b, c, d, e, f, g⟩ := h; ⟨p, pp, s, pw, pace, a, sqt_keep k b, sqt_keep k c, d, e, f, g.keep k⟩
def BB (K : PySem.W.Frag) (H : Hp) (ks : List Nat) (v : V) (P : Prop) : Prop := (v = .non ∧ P) ∨ BestOk K H ks v
theorem BB.keep {K : PySem.W.Frag} {H H' : Hp} {v : V} {ks : List Nat} {P : Prop} (k : KeepT H H') (h : BB K H ks v P) : BB K H' ks v P := h.imp id (·.keep k)
theorem BB.mono {K : PySem.W.Frag} {H : Hp} {v : V} {ks : List Nat} {P P' : Prop} (h : BB K H ks v P) (m : P → P') : BB K H ks v P' := h.imp (fun a => ⟨a.1, m a.2⟩) id
def spBest (K : PySem.W.Frag) : Sp := fun vs H Q _ => ∃ (vc vw : V) (Ls : Addr) (b : Int) (C : Chn) (W : List (Str × Int)) (ks : List Nat), vs = [vc, vw, .ref Ls] ∧ Dp K H vc (dChn b C) ∧ ChnOk b C ∧ WAtS K H vw W ∧ (W.map (·.1)).Nodup ∧ W.length ≤ 1000 ∧ (∀ e ∈ W, e.2.natAbs ≤ 99) ∧ H Ls = some (.lst (ks.map vN)) ∧ Rch C ks ∧
  ∀ H' v, Same H H' → BestOk K H' ks v → Q v H'
theorem unfrz {H H' : Hp} {d : Addr} {u f : HO} (h : H d = some u) (s : Same (upd H d f) H') : Same H (upd H' d u) := fun b x e => by
  by_cases c : b = d
  · subst c
    rw [h] at e
    rw [upd_same, ← e]
  · rw [upd_ne c]
    exact s b x (by rw [upd_ne c]; exact e)
theorem keepT_frz {H : Hp} {L : Addr} {o : HO} {od : Obj} {kvs : List (L2.Key × V)} (h : H L = some (.frz od (.dK kvs))) : KeepT H (upd H L o) := fun p xs r => by
  have ne : p ≠ L := fun e => by
    subst e
    rcases r with r | ⟨o', r⟩ <;> rw [h] at r <;> cases r
  rcases r with r | ⟨o', r⟩
  · exact .inl (by rw [upd_ne ne]; exact r)
  · exact .inr ⟨o', by rw [upd_ne ne]; exact r⟩
theorem same_upd2 {H : Hp} {d e : Addr} {u f : HO} (h : H e = none) : Same (upd H d f) (upd (upd H e u) d f) := fun b x q => by
  by_cases c : b = d
  · subst c
    rw [upd_same] at q ⊢
    exact q
  · rw [upd_ne c] at q ⊢
    rw [upd_ne (ne_of_none q h)]
    exact q
section
variable {P : Program} {w : World} {K : PySem.W.Frag} {mg : Str → Option Value} {base : Heap}
set_option maxHeartbeats 2000000 in
theorem ok__law_best_ring (T : Txt K mg) (D__law_frac : Kept P w K mg base 1 "_law_frac" ["n", "d"] spFrac) (D__law_less : Kept P w K mg base 1 "_law_less" ["a", "b"] (spLess K)) (D__law_worth : Kept P w K mg base 1 "_law_worth" ["worths", "shown"] (spLWorth K)) {f : Addr} {fd : FuncData} (F : FnP K "_law_best_ring" s__law_best_ring f fd) : FnOk P w K mg base CX0 2 f fd ["chain", "worths", "states"] (spBest K) := by
  refine F.ok sc__law_best_ring (fun vs H Q E h => ?_) (fun cdv A outer s H vs Q E hr h => ?_)
  · obtain ⟨vc, vw, Ls, b, C, W, ks, rfl, _⟩ := h
    rfl
  · obtain ⟨vc, vw, Ls, b, C, W, ks, rfl, hC, okC, hw, nd, wl, hW, hLs, rc, q⟩ := h
    refine ⟨_, PSs.nox (pss_cons (ps_set (i := 3) sc__law_best_ring.nd rfl (Or.inl rfl) pe_non)
      (pss_cons (ps_for PassesOwn.never rfl (pi_list (pv 2)) (pg_name (i := 4) sc__law_best_ring.nd rfl (Or.inl rfl)) (pss_cons (ps_set (i := 5) sc__law_best_ring.nd rfl (Or.inl rfl) (pe_disp (pps_cons (pv 4) (pe_tup (pa_cons pe_int (pa_cons (pe_tup pa_nil) pa_nil))) pps_nil) (by rfl) (by rfl) (fun z => by cases z) (by decide)))
      (pss_one (ps_for PassesOwn.never rfl (pi_range2 (by rfl) T.b_range (pa_cons pe_int (pa_cons (pe_op op_add (pe_callB call_len (by rfl) T.b_len (by decide +kernel) (pa_cons (pv 2) pa_nil)) pe_int) pa_nil))) (pg_name (i := 6) sc__law_best_ring.nd rfl (Or.inl rfl)) (pss_cons (ps_set (i := 7) sc__law_best_ring.nd rfl (Or.inl rfl) pe_dnewK)
      (pss_cons (ps_lock (ps_for PassesOwn.never rfl (pi_keys (pv 5)) (pg_name (i := 8) sc__law_best_ring.nd rfl (Or.inl rfl)) (pss_one (ps_for PassesOwn.never rfl (pi_tup (pe_ix ix_tup (pe_ix ix_tup (pv 0) pe_int (fun _ _ => rfl)) (pv 8) (fun _ _ => rfl))) (pg_tup rfl (pgs_cons (pg_name (i := 9) sc__law_best_ring.nd rfl (Or.inl rfl)) (pgs_cons (pg_name (i := 10) sc__law_best_ring.nd rfl (Or.inl rfl)) (pgs_cons (pg_name (i := 11) sc__law_best_ring.nd rfl (Or.inl rfl)) pgs_nil)))) (pss_cons (ps_set (i := 12) sc__law_best_ring.nd rfl (Or.inl rfl) (pe_op op_add (pe_ix ix_tup (pe_dget (hu_of hr) (pv 5) (pv 8) (fun _ _ => rfl)) pe_int (fun _ _ => rfl)) (pe_d D__law_worth (hr.mono (by decide)) (by rfl) (pa_cons (pv 1) (pa_cons (pv 10) pa_nil)))))
      (pss_one (ps_if (PW.pt (pw_or (pt_cmp (pc_dnotin (hu_of hr) (pv 11) (pv 7))) (pw_or1 (pt_cmpR op_lt (pe_ix ix_tup (pe_dget (hu_of hr) (pv 7) (pv 11) (fun _ _ => rfl)) pe_int (fun _ _ => rfl)) (pv 12) (nomark _))))) (pss_one (ps_asg (pe_tup (pa_cons (pv 12) (pa_cons (pe_op op_catA (pe_ix ix_tup (pe_dget (hu_of hr) (pv 5) (pv 8) (fun _ _ => rfl)) pe_int (fun _ _ => rfl)) (pe_tup (pa_cons (pv 9) pa_nil))) pa_nil))) (pg_sub (pv 7) (pv 11) (set_dict (hu_of hr))))) pss_nil)))))))
      (pss_cons (ps_set (i := 5) sc__law_best_ring.nd rfl (Or.inl rfl) (pv 7))
      (pss_one (ps_if (pt_cmp (pc_din (hu_of hr) (pv 4) (pv 5))) (pss_cons (ps_set (i := 13) sc__law_best_ring.nd rfl (Or.inl rfl) (pe_d D__law_frac (hr.mono (by decide)) (by rfl) (pa_cons (pe_ix ix_tup (pe_dget (hu_of hr) (pv 5) (pv 4) (fun _ _ => rfl)) pe_int (fun _ _ => rfl)) (pa_cons (pv 6) pa_nil))))
      (pss_one (ps_if (PW.pt (pw_or (pt_cmpR op_isN (pv 3) pe_non (nomark _)) (pw_or1 (pt_val (pe_d D__law_less (hr.mono (by decide)) (by rfl) (pa_cons (pe_ix ix_tup (pv 3) pe_int (fun _ _ => rfl)) (pa_cons (pv 13) pa_nil))))))) (pss_one (ps_set (i := 3) sc__law_best_ring.nd rfl (Or.inl rfl) (pe_tup (pa_cons (pv 13) (pa_cons (pv 4) (pa_cons (pe_ix ix_tup (pe_dget (hu_of hr) (pv 5) (pv 4) (fun _ _ => rfl)) pe_int (fun _ _ => rfl)) pa_nil)))))) pss_nil))) pss_nil)))))))))
      (pss_one (ps_ret (pv 3))))), ?_⟩
    obtain ⟨pc, pq, xs, rfl, hpc, hpq, hA⟩ := chn_at hC
    have few := okC.few
    have kf : ks.length ≤ C.length := nodup_lt _ rc.nd rc.lt
    refine ⟨_, rfl, Ls, rfl, ⟨_, SqL.of hLs⟩, for_list (K := K) (a := Ls) (xs := ks.map vN) (fun i σ H' => ∃ (bv : V) (y4 y5 y6 y7 y8 y9 y10 y11 y12 y13 : Option V), σ = [some (.ref pc), some vw, some (.ref Ls), some bv, y4, y5, y6, y7, y8, y9, y10, y11, y12, y13] ∧ Same H H' ∧ BB K H' ks bv (∀ s ∈ ks.take i, ∀ m, 1 ≤ m → m ≤ ks.length → itr C s m ≠ s)) ⟨_, _, _, _, _, _, _, _, _, _, _, rfl, Same.refl _, .inl ⟨rfl, fun _ h => absurd h List.not_mem_nil⟩⟩ (fun i σ H' _ ⟨_, _, _, _, _, _, _, _, _, _, _, _, s, _⟩ => SqL.of (s _ _ hLs)) ?_ ?_⟩
    · rintro i x σ H1 hi ⟨bv, y4, y5, y6, y7, y8, y9, y10, y11, y12, y13, rfl, s1, bb⟩
      rw [List.getElem?_map] at hi
      obtain ⟨st, hst, rfl⟩ := Option.map_eq_some_iff.mp hi
      have stm := List.mem_of_getElem? hst
      have stn := rc.lt st stm
      refine fun d hd => ⟨_, rfl, Nat.zero_le _, fun e he => ⟨z2, fun t ht => ?_⟩⟩
      have hdH : H d = none := s1.free hd
      have s2 := s1.trans (same_new (o := .dK []) hd)
      have s3 := s2.trans (same_new (o := .tup []) he)
      have hd3 := same_new (o := .tup []) he _ _ (upd_same (H := H1) (a := d) (o := .dK []))
      have we : Wd K (upd (upd H1 d (.dK [])) e (.tup [])) (.ref e) 0 := Wd.nil
      have bb3 := bb.keep (KeepT.of_same ((same_new (o := .dK []) hd).trans (same_new (o := .tup []) he)))
      generalize upd (upd H1 d (.dK [])) e (.tup []) = H3 at s3 hd3 we ht bb3
      have s4 := s3.trans (same_new (o := .tup [.int 0, .ref e]) ht)
      have hd4 := same_new (o := .tup [.int 0, .ref e]) ht _ _ hd3
      have bb4 := bb3.keep (KeepT.of_same (same_new (o := .tup [.int 0, .ref e]) ht))
      have r4 : SumR K (upd H3 t (.tup [.int 0, .ref e])) 0 (.ref t) := ⟨t, 0, .ref e, rfl, SqT.of upd_same, Nat.le_refl _, we.same (same_new ht)⟩
      generalize upd H3 t (.tup [.int 0, .ref e]) = H4 at s4 hd4 r4 bb4
      refine ⟨hd4, [(kS st, .ref t)], rfl, by show 1 ≤ 15; decide, ?_⟩
      have em : mergeK ([] : List (L2.Key × V)) [(kS st, .ref t)] = [(kS st, .ref t)] := rfl
      rw [em]
      have k5 := keepT_nt (o := .dK [(kS st, .ref t)]) (nt_dk _) hd4
      have s5 := same_mut (o := .dK [(kS st, .ref t)]) s4 hdH
      have bb5 := bb4.keep k5
      have kd : KD C.length [(kS st, V.ref t)] [st] (fun _ v => SumR K (upd H4 d (.dK [(kS st, .ref t)])) 0 v) := by
        refine ⟨rfl, List.nodup_cons.mpr ⟨List.not_mem_nil, List.nodup_nil⟩, fun s hs => ?_, fun s hs => ⟨.ref t, ?_, r4.keep k5⟩⟩
        · rw [List.mem_singleton.mp hs]
          exact stn
        · rw [List.mem_singleton.mp hs]
          show valV [(kS st, V.ref t)] (kS st) = some (.ref t)
          exact valV_pos rfl
      have hd5 := upd_same (H := H4) (a := d) (o := .dK [(kS st, .ref t)])
      generalize upd H4 d (.dK [(kS st, .ref t)]) = H5 at s5 kd hd5 bb5
      have Q0 : ∀ s ∈ ks.take i, ∀ m, 1 ≤ m → m ≤ ks.length → itr C s m ≠ s ∨ True := fun _ _ _ _ _ => .inr trivial
      refine ⟨_, rfl, _, _, rfl, .inl ⟨_, SqL.of (s5 _ _ hLs), rfl⟩, _, _, rfl, rfl, 1, _, rfl, by rw [List.length_map]; omega, for_range (lo := 1) (n := ((((ks.map vN).length : Nat) : Int) + 1 - 1).toNat) (fun j σ H' => ∃ (bv : V) (d : Addr) (y6 y7 y8 y9 y10 y11 y12 y13 : Option V) (kvs : List (L2.Key × V)) (qs : List Nat), σ = [some (.ref pc), some vw, some (.ref Ls), some bv, some (vN st), some (.ref d), y6, y7, y8, y9, y10, y11, y12, y13] ∧ Same H H' ∧ H d = none ∧ H' d = some (.dK kvs) ∧ KD C.length kvs qs (fun _ v => SumR K H' j v) ∧ itr C st j ∈ qs ∧ (∀ x ∈ qs, x ∈ ks) ∧ BB K H' ks bv ((∀ s ∈ ks.take i, ∀ m, 1 ≤ m → m ≤ ks.length → itr C s m ≠ s) ∧ ∀ m, 1 ≤ m → m ≤ j → itr C st m ≠ st)) ⟨_, d, _, _, _, _, _, _, _, _, _, [st], rfl, s5, hdH, hd5, kd, List.mem_cons_self, fun x hx => by rw [List.mem_singleton.mp hx]; exact stm, bb5.mono fun p => ⟨p, fun m h1 h2 => by omega⟩⟩ ?_ ?_⟩
      · rintro j σ H6 hj ⟨bv, d, y6, y7, y8, y9, y10, y11, y12, y13, kvs, qs, rfl, s6, hdH, hd6, kd, orb, sub, bb⟩
        rw [List.length_map] at hj
        have jl : j < ks.length := by omega
        refine fun dN hdN => ⟨d, .dK kvs, same_new hdN _ _ hd6, True.intro, fun od => ?_⟩
        have dNd : dN ≠ d := (ne_of_none hd6 hdN).symm
        have hdNH : H dN = none := s6.free hdN
        have LsD : Ls ≠ d := fun e => by rw [← e, hLs] at hdH; cases hdH
        have uF : ∀ {H' : Hp}, Same (upd H6 d (.frz od (.dK kvs))) H' → Same H6 (upd H' d (.dK kvs)) := fun s => unfrz hd6 s
        have kL := keepT_nt (o := .frz od (.dK kvs)) (nt_dk _) hd6
        have sL := same_upd2 (d := d) (u := .dK []) (f := .frz od (.dK kvs)) hdN
        have hNL : upd (upd H6 dN (.dK [])) d (.frz od (.dK kvs)) dN = some (.dK []) := by rw [upd_ne dNd, upd_same]
        have hdNL : upd H6 d (.frz od (.dK kvs)) dN = none := by rw [upd_ne dNd]; exact hdN
        have hdL := upd_same (H := H6) (a := d) (o := .frz od (.dK kvs))
        have kdL := kd.mono (R' := fun _ v => SumR K (upd H6 d (.frz od (.dK kvs))) j v) fun _ v _ h => h.keep kL
        have bbL := bb.keep kL
        have kHL : KeepT H (upd H6 d (.frz od (.dK kvs))) := (KeepT.of_same s6).trans kL
        have hd0 : upd (upd H6 dN (.dK [])) d (.frz od (.dK kvs)) d = some (.frz od (.dK kvs)) := upd_same
        generalize upd (upd H6 dN (.dK [])) d (.frz od (.dK kvs)) = H8 at sL hNL hd0
        generalize upd H6 d (.frz od (.dK kvs)) = HL at sL uF hdNL hdL kdL bbL kHL
        have kvl := kd.len
        refine ⟨_, rfl, d, od, rfl, .inl ⟨kvs, hd0, for_it walk_keys (fun i2 σ H' => ∃ (y8 y9 y10 y11 y12 y13 : Option V) (kvs' : List (L2.Key × V)) (qs' : List Nat), σ = [some (.ref pc), some vw, some (.ref Ls), some bv, some (vN st), some (.ref d), some (.int (1 + (j : Int))), some (.ref dN), y8, y9, y10, y11, y12, y13] ∧ Same HL H' ∧ H' dN = some (.dK kvs') ∧ KD C.length kvs' qs' (fun _ v => SumR K H' (j + 1) v) ∧ (∀ x ∈ qs', x ∈ ks) ∧ ∀ x ∈ qs.take i2, ∀ b ∈ rowOf C x, b.2.2 ∈ qs') ⟨_, _, _, _, _, _, [], [], rfl, sL, hNL, KD.nil, fun _ h => absurd h List.not_mem_nil, fun _ h => absurd h List.not_mem_nil⟩ (fun i2 σ H' _ ⟨_, _, _, _, _, _, _, _, _, s, _⟩ => s _ _ hdL) ?_ ?_⟩⟩
        · rintro i2 x σ H9 H9' hi2 ⟨y8, y9, y10, y11, y12, y13, kvs', qs', rfl, s9, hN9, kd9, sub9, cl9⟩ ⟨rfl, key, v0, hkv, rfl⟩
          obtain ⟨here, hhere, rfl⟩ := kd.at_ hkv
          have hm := List.mem_of_getElem? hhere
          have hn := kd.lt here hm
          obtain ⟨vh, ev, pS, sz, pw, rfl, hpS, szb, hpw⟩ := kdL.val here hm
          have k9 := kHL.trans (KeepT.of_same s9)
          obtain ⟨xr, hxr, dr⟩ := dpA_get hA (rowOf_at hn)
          obtain ⟨pr, rs, rfl, hpr, hrs⟩ := dp_tup dr
          have rl := dpA_len hrs
          rw [List.length_map] at rl
          have okr := okC.row _ (List.mem_of_getElem? (rowOf_at hn))
          refine ⟨_, rfl, pc, _, _, _, rfl, rfl, sqt_keep k9 hpc, atI_nat (j := 2) rfl, _, rfl, pq, _, _, _, rfl, rfl, sqt_keep k9 hpq, atI_nat hxr, pr, rfl, ⟨_, sqt_keep k9 hpr⟩, for_tup (K := K) (a := pr) (xs := rs) (fun k σ H' => ∃ (y9 y10 y11 y12 y13 : Option V) (kvs' : List (L2.Key × V)) (qs'' : List Nat), σ = [some (.ref pc), some vw, some (.ref Ls), some bv, some (vN st), some (.ref d), some (.int (1 + (j : Int))), some (.ref dN), some (vN here), y9, y10, y11, y12, y13] ∧ Same HL H' ∧ H' dN = some (.dK kvs') ∧ KD C.length kvs' qs'' (fun _ v => SumR K H' (j + 1) v) ∧ (∀ x ∈ qs'', x ∈ ks) ∧ (∀ x ∈ qs', x ∈ qs'') ∧ ∀ b ∈ (rowOf C here).take k, b.2.2 ∈ qs'') ⟨_, _, _, _, _, kvs', qs', rfl, s9, hN9, kd9, sub9, fun _ h => h, fun _ h => absurd h List.not_mem_nil⟩ (fun k σ H' _ ⟨_, _, _, _, _, _, _, _, s, _⟩ => sqt_keep (kHL.trans (KeepT.of_same s)) hpr) ?_ ?_⟩
          · rintro k y σ H10 hk ⟨y9, y10, y11, y12, y13, kvs', qs'', rfl, s10, hN10, kd10, sub10, up10, cl10⟩
            have k10 := kHL.trans (KeepT.of_same s10)
            obtain ⟨br, hbr, hy⟩ := dpA_mem (dpA_keep k10 _ _ (noLs_br _) hrs) hk
            obtain ⟨pb, x0, x1, rfl, hpb, hd0', hd1'⟩ := br_at hy
            have bm := List.mem_of_getElem? hbr
            have okb := okr.to br bm
            have tn := okb.1
            have tk := rc.on here (sub here hm) br bm
            have few10 := kd10.few
            have kvl10 := kd10.len
            have dg : ∀ {H' : Hp}, Same HL H' → DGet H' d (kV (kS here)) (some (.ref pS)) := fun s => by
              rw [← ev]
              exact .inl ⟨kvs, kS here, .inr ⟨od, s _ _ hdL⟩, rfl, rfl⟩
            refine ⟨_, _, rfl, hpb, rfl, _, _, rfl, _, _, rfl, _, _, rfl, rfl, ?_⟩
            refine ⟨_, rfl, _, rfl, d, _, rfl, dg s10, pS, _, _, _, rfl, rfl, same_t s10 hpS, atI_nat (j := 0) rfl, ?_⟩
            refine ⟨_, rfl, _, rfl, vw, x1, W, br.2.1, rfl, hw.keep k10, nd, wl, hd1', by omega, fun H11 s11 => ⟨_, _, rfl, rfl, ?_⟩⟩
            have s11' := s10.trans s11
            have hN11 := s11 _ _ hN10
            have szn : (sz + wv W br.2.1).natAbs ≤ 594 * (j + 1) := by
              have h1 := wv_le hW br.2.1
              have h2 := okb.2
              have h3 := Int.natAbs_add_le sz (wv W br.2.1)
              omega
            refine ⟨_, rfl, _, rfl, dN, _, rfl, DGet.k (k := kS br.2.2) hN11, _, rfl, ?_⟩
            rw [kd10.is]
            by_cases c : br.2.2 ∈ qs''
            · rw [decide_eq_true c]
              refine ite2 (fun h => (nomatch (show false = true from h))) (fun _ => ?_)
              obtain ⟨v2, ev2, pS2, sz2, pw2, rfl, hpS2, _, _⟩ := kd10.val br.2.2 c
              refine ⟨_, rfl, _, rfl, dN, _, rfl, by rw [← ev2]; exact DGet.k (k := kS br.2.2) hN11, pS2, _, _, _, rfl, rfl, same_t s11 hpS2, atI_nat (j := 0) rfl, _, rfl, _, _, rfl, rfl, _, rfl, ite2 (fun _ => ?_) (fun _ => ?_)⟩
              · refine ⟨_, rfl, _, rfl, _, rfl, d, _, rfl, dg s11', pS, _, _, _, rfl, rfl, same_t s11' hpS, atI_nat (j := 1) rfl, _, rfl, z1, fun e he => ?_⟩
                have t1 := same_new (o := .tup [x0]) he
                have w1' := Wd.one (K := K) (dp_same s11 _ _ hd0') he
                generalize upd H11 e (.tup [x0]) = H12 at t1 w1'
                refine catW ((hpw.same s11').same t1) w1' (by omega) fun nv H13 t2 w2 => ⟨z2, fun tt htt => ?_⟩
                have t3 := t1.trans (t2.trans (same_new (o := .tup [.int (sz + wv W br.2.1), nv]) htt))
                have r3 : SumR K (upd H13 tt (.tup [.int (sz + wv W br.2.1), nv])) (j + 1) (.ref tt) := ⟨tt, _, nv, rfl, SqT.of upd_same, szn, w2.same (same_new htt)⟩
                generalize upd H13 tt (.tup [.int (sz + wv W br.2.1), nv]) = H14 at t3 r3
                have hN14 := t3 _ _ hN11
                refine ⟨_, rfl, _, rfl, dN, _, rfl, DPut.k (k := kS br.2.2) hN14 (line6 (by omega)), ?_⟩
                have kp := keepT_nt (o := .dK (putK kvs' (kS br.2.2) (.ref tt))) (nt_dk _) hN14
                refine ⟨_, _, _, _, _, _, addK qs'' br.2.2, rfl, same_mut (s11'.trans t3) hdNL, upd_same, (kd10.mono fun _ v _ h => (h.keep (KeepT.of_same (s11.trans t3))).keep kp).put tn (r3.keep kp), fun x hx => (mem_addK.mp hx).elim (sub10 x) (fun h => h ▸ tk), fun x hx => mem_addK.mpr (.inl (up10 x hx)), fun b hb => ?_⟩
                rw [take_snoc hbr] at hb
                rcases List.mem_append.mp hb with h | h
                · exact mem_addK.mpr (.inl (cl10 b h))
                · rw [List.mem_singleton.mp h]
                  exact mem_addK.mpr (.inr rfl)
              · refine ⟨_, _, _, _, _, kvs', qs'', rfl, s11', hN11, kd10.mono fun _ v _ h => h.keep (KeepT.of_same s11), sub10, up10, fun b hb => ?_⟩
                rw [take_snoc hbr] at hb
                rcases List.mem_append.mp hb with h | h
                · exact cl10 b h
                · rw [List.mem_singleton.mp h]
                  exact c
            · rw [decide_eq_false c]
              refine ite2 (fun _ => ite2 (fun _ => ?_) (fun h => absurd rfl h)) (fun h => absurd rfl h)
              refine ⟨_, rfl, _, rfl, _, rfl, d, _, rfl, dg s11', pS, _, _, _, rfl, rfl, same_t s11' hpS, atI_nat (j := 1) rfl, _, rfl, z1, fun e he => ?_⟩
              have t1 := same_new (o := .tup [x0]) he
              have w1' := Wd.one (K := K) (dp_same s11 _ _ hd0') he
              generalize upd H11 e (.tup [x0]) = H12 at t1 w1'
              refine catW ((hpw.same s11').same t1) w1' (by omega) fun nv H13 t2 w2 => ⟨z2, fun tt htt => ?_⟩
              have t3 := t1.trans (t2.trans (same_new (o := .tup [.int (sz + wv W br.2.1), nv]) htt))
              have r3 : SumR K (upd H13 tt (.tup [.int (sz + wv W br.2.1), nv])) (j + 1) (.ref tt) := ⟨tt, _, nv, rfl, SqT.of upd_same, szn, w2.same (same_new htt)⟩
              generalize upd H13 tt (.tup [.int (sz + wv W br.2.1), nv]) = H14 at t3 r3
              have hN14 := t3 _ _ hN11
              refine ⟨_, rfl, _, rfl, dN, _, rfl, DPut.k (k := kS br.2.2) hN14 (line6 (by omega)), ?_⟩
              have kp := keepT_nt (o := .dK (putK kvs' (kS br.2.2) (.ref tt))) (nt_dk _) hN14
              refine ⟨_, _, _, _, _, _, addK qs'' br.2.2, rfl, same_mut (s11'.trans t3) hdNL, upd_same, (kd10.mono fun _ v _ h => (h.keep (KeepT.of_same (s11.trans t3))).keep kp).put tn (r3.keep kp), fun x hx => (mem_addK.mp hx).elim (sub10 x) (fun h => h ▸ tk), fun x hx => mem_addK.mpr (.inl (up10 x hx)), fun b hb => ?_⟩
              rw [take_snoc hbr] at hb
              rcases List.mem_append.mp hb with h | h
              · exact mem_addK.mpr (.inl (cl10 b h))
              · rw [List.mem_singleton.mp h]
                exact mem_addK.mpr (.inr rfl)
          · rintro σ H10 ⟨y9, y10, y11, y12, y13, kvs', qs'', rfl, s10, hN10, kd10, sub10, up10, cl10⟩
            rw [rl, List.take_length] at cl10
            refine ⟨_, _, _, _, _, _, kvs', qs'', rfl, s10, hN10, kd10, sub10, fun x hx b hb => ?_⟩
            rw [take_snoc hhere] at hx
            rcases List.mem_append.mp hx with h | h
            · exact up10 _ (cl9 x h b hb)
            · rw [List.mem_singleton.mp h] at hb
              exact cl10 b hb
        · rintro σ H9 ⟨y8, y9, y10, y11, y12, y13, kvs', qs', rfl, s9, hN9, kd9, sub9, cl9⟩
          rw [kvl, List.take_length] at cl9
          refine ⟨s9 _ _ hdL, ?_⟩
          have s10 := s6.trans (uF s9)
          have hN10 : upd H9 d (.dK kvs) dN = some (.dK kvs') := by rw [upd_ne dNd]; exact hN9
          have k10 := keepT_frz (o := .dK kvs) (s9 _ _ hdL)
          have kd10 := kd9.mono (R' := fun _ v => SumR K (upd H9 d (.dK kvs)) (j + 1) v) fun _ v _ h => h.keep k10
          have bb10 := (bbL.keep (KeepT.of_same s9)).keep k10
          have orb' : itr C st (j + 1) ∈ qs' := by
            obtain ⟨br, hb, e⟩ := fst_in okC (kd.lt _ orb)
            show fstT C (itr C st j) ∈ qs'
            rw [e]
            exact cl9 _ orb br hb
          generalize upd H9 d (.dK kvs) = H10 at s10 hN10 kd10 bb10
          refine ⟨_, rfl, ?_⟩
          refine ⟨_, rfl, _, rfl, dN, _, rfl, DGet.k (k := kS st) hN10, _, rfl, ?_⟩
          rw [kd10.is]
          by_cases c : st ∈ qs'
          · rw [decide_eq_true c]
            refine ite2 (fun _ => ?_) (fun h => absurd rfl h)
            obtain ⟨v2, ev2, pS2, sz2, pw2, rfl, hpS2, sb2, wd2⟩ := kd10.val st c
            have nz : (1 : Int) + (j : Int) ≠ 0 := by omega
            have szz : Sz 16 (sz2, 1 + (j : Int)) := ⟨by show sz2.natAbs < 2 ^ 16; omega, by show (1 + (j : Int)).natAbs < 2 ^ 16; omega⟩
            have lp := fr_low (n := sz2) nz
            have zp : Sz 16 (fr sz2 (1 + (j : Int))) := fr_sz szz
            refine ⟨_, rfl, _, rfl, dN, _, rfl, by rw [← ev2]; exact DGet.k (k := kS st) hN10, pS2, _, _, _, rfl, rfl, hpS2, atI_nat (j := 0) rfl, _, rfl, sz2, 1 + (j : Int), rfl, nz, sz_up szz (by decide), fun pp hpp => ?_⟩
            have t1 := same_new (o := tupF (fr sz2 (1 + (j : Int)))) hpp
            have hpp1 := sq_new (K := K) (H := H10) (p := pp) (f := fr sz2 (1 + (j : Int)))
            generalize fr sz2 (1 + (j : Int)) = pace at t1 hpp1 lp zp
            generalize upd H10 pp (tupF pace) = H11 at t1 hpp1
            have kd11 := kd10.mono (R' := fun _ v => SumR K H11 (j + 1) v) fun _ v _ h => h.keep (KeepT.of_same t1)
            have hN11 := t1 _ _ hN10
            have inv : ∀ (bv' : V) (y13 : Option V) (H12 : Hp), Same H11 H12 → BB K H12 ks bv' ((∀ s ∈ ks.take i, ∀ m, 1 ≤ m → m ≤ ks.length → itr C s m ≠ s) ∧ ∀ m, 1 ≤ m → m ≤ j + 1 → itr C st m ≠ st) → ∃ (bv : V) (d : Addr) (a6 a7 a8 a9 a10 a11 a12 a13 : Option V) (kvs : List (L2.Key × V)) (qs : List Nat), [some (.ref pc), some vw, some (.ref Ls), some bv', some (vN st), some (.ref dN), some (.int (1 + (j : Int))), some (.ref dN), y8, y9, y10, y11, y12, y13] = [some (.ref pc), some vw, some (.ref Ls), some bv, some (vN st), some (.ref d), a6, a7, a8, a9, a10, a11, a12, a13] ∧ Same H H12 ∧ H d = none ∧ H12 d = some (.dK kvs) ∧ KD C.length kvs qs (fun _ v => SumR K H12 (j + 1) v) ∧ itr C st (j + 1) ∈ qs ∧ (∀ x ∈ qs, x ∈ ks) ∧ BB K H12 ks bv ((∀ s ∈ ks.take i, ∀ m, 1 ≤ m → m ≤ ks.length → itr C s m ≠ s) ∧ ∀ m, 1 ≤ m → m ≤ j + 1 → itr C st m ≠ st) := fun bv' y13 H12 t2 hb =>
              ⟨bv', dN, _, _, _, _, _, _, _, _, kvs', qs', rfl, s10.trans (t1.trans t2), hdNH, t2 _ _ hN11, kd11.mono fun _ v _ h => h.keep (KeepT.of_same t2), orb', sub9, hb⟩
            have fin : ∀ t, H11 t = none → BestOk K (upd H11 t (.tup [.ref pp, vN st, pw2])) ks (.ref t) := fun t ht => by
              have t2 := same_new (o := .tup [.ref pp, vN st, pw2]) ht
              exact ⟨t, pp, st, pw2, pace, rfl, SqT.of upd_same, same_t t2 hpp1, lp, zp, stm, ((wd2.same t1).same t2).up (by omega)⟩
            rcases bb10 with ⟨rfl, _⟩ | bo
            · refine ⟨_, rfl, rfl, _, rfl, ite2 (fun _ => ite2 (fun _ => ?_) (fun h => absurd rfl h)) (fun h => absurd rfl h)⟩
              exact ⟨_, rfl, _, rfl, _, rfl, _, rfl, dN, _, rfl, by rw [← ev2]; exact DGet.k (k := kS st) hN11, pS2, _, _, _, rfl, rfl, same_t t1 hpS2, atI_nat (j := 1) rfl, z3, fun t ht => inv _ _ _ (same_new ht) (.inr (fin t ht))⟩
            · obtain ⟨pB, pBp, sB, pwB, paceB, rfl, hpB, hpBp, lB, zB, sBk, wB⟩ := id bo
              refine ⟨_, rfl, rfl, _, rfl, ite2 (fun h => (nomatch (show false = true from h))) (fun _ => ?_)⟩
              refine ⟨_, rfl, pB, _, _, _, rfl, rfl, same_t t1 hpB, atI_nat (j := 0) rfl, _, rfl, pBp, pp, paceB, pace, rfl, same_t t1 hpBp, hpp1, sz_up zB (by decide), sz_up zp (by decide), ?_⟩
              refine ⟨_, rfl, ite2 (fun _ => ?_) (fun _ => ?_)⟩
              · exact ⟨_, rfl, _, rfl, _, rfl, _, rfl, dN, _, rfl, by rw [← ev2]; exact DGet.k (k := kS st) hN11, pS2, _, _, _, rfl, rfl, same_t t1 hpS2, atI_nat (j := 1) rfl, z3, fun t ht => inv _ _ _ (same_new ht) (.inr (fin t ht))⟩
              · exact inv _ _ _ (Same.refl _) (.inr (bo.keep (KeepT.of_same t1)))
          · rw [decide_eq_false c]
            refine ite2 (fun h => (nomatch (show false = true from h))) (fun _ => ?_)
            refine ⟨bv, dN, _, _, _, _, _, _, _, _, kvs', qs', rfl, s10, hdNH, hN10, kd10, orb', sub9, bb10.mono fun p => ⟨p.1, fun m h1 h2 e => ?_⟩⟩
            by_cases hm : m ≤ j
            · exact p.2 m h1 hm e
            · have : m = j + 1 := by omega
              subst this
              rw [e] at orb'
              exact c orb'
      · rintro σ H6 ⟨bv, d, y6, y7, y8, y9, y10, y11, y12, y13, kvs, qs, rfl, s6, hdH, hd6, kd, orb, sub, bb⟩
        rw [List.length_map] at bb
        refine ⟨_, _, _, _, _, _, _, _, _, _, _, rfl, s6, bb.mono fun p s hs m h1 h2 => ?_⟩
        rw [take_snoc hst] at hs
        rcases List.mem_append.mp hs with h | h
        · exact p.1 s h m h1 h2
        · rw [List.mem_singleton.mp h]
          exact p.2 m h1 (by omega)
    · rintro σ H1 ⟨bv, y4, y5, y6, y7, y8, y9, y10, y11, y12, y13, rfl, s1, bb⟩
      rw [List.length_map, List.take_length] at bb
      rcases bb with ⟨_, no⟩ | bb
      · obtain ⟨s, hs, i, i1, i2, e⟩ := comes_back okC rc
        exact absurd e (no s hs i i1 i2)
      · exact ⟨_, rfl, q _ _ s1 bb⟩
end
end Mt
namespace Mt
open PySem PySem.Spec PyProof.Rows L2
theorem Fr.sub {a b : F2} {N1 N2 : Int} {M : Nat} (ha : Fr a N1 M) (hb : Fr b N2 M) : Fr (frp (sub2 a b)) (N1 - N2) M := by
  refine Fr.of (add2_ne ha.low hb.low) ?_ ha.pos
  have h1 := ha.eq
  have h2 := hb.eq
  show (a.1 * b.2 - b.1 * a.2) * (M : Int) = (N1 - N2) * (a.2 * b.2)
  grind
/-- a height over M, no further than n steps -/
def HtR (K : PySem.W.Frag) (H : Hp) (M n : Nat) (v : V) : Prop := ∃ (p : Addr) (f : F2) (N : Int), v = .ref p ∧ SqT K H p (tupV f) ∧ Fr f N M ∧ N.natAbs ≤ 2 ^ 26 * n
theorem HtR.keep {K : PySem.W.Frag} {H H' : Hp} {v : V} {M n : Nat} (k : KeepT H H') (h : HtR K H M n v) : HtR K H' M n v := let ⟨p, f, N, a, b, c, d⟩ := h; ⟨p, f, N, a, sqt_keep k b, c, d⟩
theorem HtR.up {K : PySem.W.Frag} {H : Hp} {v : V} {M n : Nat} (h : HtR K H M n v) : HtR K H M (n + 1) v := let ⟨p, f, N, a, b, c, d⟩ := h; ⟨p, f, N, a, b, c, by omega⟩
theorem Rch.all {C : Chn} {b : Int} (ok : ChnOk b C) : Rch C (List.range C.length) :=
  ⟨List.mem_range.mpr ok.pos, List.nodup_range, fun _ h => List.mem_range.mp h, fun s hs br hb => List.mem_range.mpr ((ok.row _ (List.mem_of_getElem? (rowOf_at (List.mem_range.mp hs)))).to br hb).1⟩
/-- the law's own paper, its potentials a new list -/
def OwnAt (K : PySem.W.Frag) (H H' : Hp) (n : Nat) (v : V) : Prop := ∃ (p pp pL : Addr) (ww wr : V) (pace : F2) (us : List V) (pots : List (Option F2)), v = .ref p ∧ SqT K H' p [.ref pp, .ref pL, ww, wr] ∧ SqT K H' pp (tupV pace) ∧ Low pace ∧ Sz 16 pace ∧ H pL = none ∧ H' pL = some (.lst us) ∧ DpAll K H' us (pots.map dO) ∧ pots.length = n ∧ (∀ f, some f ∈ pots → Low f ∧ Sz 40 f) ∧ Wd K H' ww 60 ∧ Wd K H' wr 60
def spOwn (K : PySem.W.Frag) : Sp := fun vs H Q _ => ∃ (vc vw : V) (wh : Bool) (b : Int) (C : Chn) (W : List (Str × Int)), vs = [vc, vw, .bl wh] ∧ Dp K H vc (dChn b C) ∧ ChnOk b C ∧ WAtS K H vw W ∧ (W.map (·.1)).Nodup ∧ W.length ≤ 1000 ∧ (∀ e ∈ W, e.2.natAbs ≤ 99) ∧
  ∀ H' v, Same H H' → OwnAt K H H' C.length v → Q v H'
section
variable {P : Program} {w : World} {K : PySem.W.Frag} {mg : Str → Option Value} {base : Heap}
set_option maxHeartbeats 2000000 in
theorem ok__law_own_paper (T : Txt K mg) (D__law_plus : Kept P w K mg base 2 "_law_plus" ["a", "b"] (spBin K add2)) (D__law_minus : Kept P w K mg base 2 "_law_minus" ["a", "b"] (spBin K sub2)) (D__law_less : Kept P w K mg base 1 "_law_less" ["a", "b"] (spLess K)) (D__law_worth : Kept P w K mg base 1 "_law_worth" ["worths", "shown"] (spLWorth K)) (D__law_ways_to : Kept P w K mg base 1 "_law_ways_to" ["chain"] (spWays K)) (D__law_best_ring : Kept P w K mg base 2 "_law_best_ring" ["chain", "worths", "states"] (spBest K)) {f : Addr} {fd : FuncData} (F : FnP K "_law_own_paper" s__law_own_paper f fd) : FnOk P w K mg base CX0 3 f fd ["chain", "worths", "whole"] (spOwn K) := by
  refine F.ok sc__law_own_paper (fun vs H Q E h => ?_) (fun cdv A outer s H vs Q E hr h => ?_)
  · obtain ⟨vc, vw, wh, b, C, W, rfl, _⟩ := h
    rfl
  · obtain ⟨vc, vw, wh, b, C, W, rfl, hC, okC, hw, nd, wl, hW, q⟩ := h
    refine ⟨_, PSs.nox (pss_cons (ps_set (i := 3) sc__law_own_paper.nd rfl (Or.inl rfl) (pe_d D__law_ways_to (hr.mono (by decide)) (by rfl) (pa_cons (pv 0) pa_nil)))
      (pss_cons (ps_lock (ps_setLc (i := 4) (own := [("s", 5)]) (g := (gName 5)) (tt := tYes) rfl sc__law_own_paper.nd rfl rfl (sw_true rfl rfl rfl (by decide +kernel)) (pi_keys (pv 3)) (blkOk_by (N := N__law_own_paper) (sc := defScope s__law_own_paper) (by decide +kernel)) (fun _ _ _ _ _ => (pg_name (i := 5) sc__law_own_paper.nd rfl (Or.inl rfl))) (fun _ _ _ _ _ => pts_nil) (fun _ _ _ _ _ => (pv 5))))
      (pss_cons (ps_asg (pe_d D__law_best_ring (hr.mono (by decide)) (by rfl) (pa_cons (pv 0) (pa_cons (pv 1) (pa_cons (pv 4) pa_nil)))) (pg_tup rfl (pgs_cons (pg_name (i := 6) sc__law_own_paper.nd rfl (Or.inl rfl)) (pgs_cons (pg_name (i := 7) sc__law_own_paper.nd rfl (Or.inl rfl)) (pgs_cons (pg_name (i := 8) sc__law_own_paper.nd rfl (Or.inl rfl)) pgs_nil)))))
      (Evl.pss_cut (ps_if (pt_truth (pv 2) (by intro _; rfl)) (pss_one (ps_set (i := 4) sc__law_own_paper.nd rfl (Or.inl rfl) (pe_listRg rfl rfl T.b_list (prg_1 rfl T.b_range (pe_callB call_len (by rfl) T.b_len (by decide +kernel) (pa_cons (pe_ix ix_tup (pv 0) pe_int (fun _ _ => rfl)) pa_nil)))))) pss_nil)
      (pss_cons (ps_set (i := 9) sc__law_own_paper.nd rfl (Or.inr rfl) pe_dnewK)
      (pss_cons (ps_for PassesOwn.never rfl (pi_list (pv 4)) (pg_name (i := 5) sc__law_own_paper.nd rfl (Or.inl rfl)) (pss_one (ps_asg (pe_tup (pa_cons pe_int (pa_cons pe_int pa_nil))) (pg_sub (pv 9) (pv 5) (set_dict (hu_of hr))))))
      (pss_cons (ps_for PassesOwn.never rfl (pi_range1 (by rfl) T.b_range (pa_cons (pe_callB call_len (by rfl) T.b_len (by decide +kernel) (pa_cons (pv 4) pa_nil)) pa_nil)) (pg_name (i := 10) sc__law_own_paper.nd rfl (Or.inl rfl)) (pss_cons (ps_set (i := 11) sc__law_own_paper.nd rfl (Or.inl rfl) pe_dnewK)
      (pss_cons (ps_for PassesOwn.never rfl (pi_list (pv 4)) (pg_name (i := 5) sc__law_own_paper.nd rfl (Or.inl rfl)) (pss_cons (ps_asg (pe_dget (hu_of hr) (pv 9) (pv 5) (fun _ _ => rfl)) (pg_sub (pv 11) (pv 5) (set_dict (hu_of hr))))
      (pss_one (ps_for PassesOwn.never rfl (pi_tup (pe_ix ix_tup (pe_ix ix_tup (pv 0) pe_int (fun _ _ => rfl)) (pv 5) (fun _ _ => rfl))) (pg_tup rfl (pgs_cons (pg_name (i := 12) sc__law_own_paper.nd rfl (Or.inl rfl)) (pgs_cons (pg_name (i := 13) sc__law_own_paper.nd rfl (Or.inl rfl)) (pgs_cons (pg_name (i := 14) sc__law_own_paper.nd rfl (Or.inl rfl)) pgs_nil)))) (pss_cons (ps_set (i := 15) sc__law_own_paper.nd rfl (Or.inl rfl) (pe_d D__law_plus (hr.mono (by decide)) (by rfl) (pa_cons (pe_d D__law_minus (hr.mono (by decide)) (by rfl) (pa_cons (pe_tup (pa_cons (pe_d D__law_worth (hr.mono (by decide)) (by rfl) (pa_cons (pv 1) (pa_cons (pv 13) pa_nil))) (pa_cons pe_int pa_nil))) (pa_cons (pv 6) pa_nil))) (pa_cons (pe_dget (hu_of hr) (pv 9) (pv 14) (fun _ _ => rfl)) pa_nil))))
      (pss_one (ps_if (pt_val (pe_d D__law_less (hr.mono (by decide)) (by rfl) (pa_cons (pe_dget (hu_of hr) (pv 11) (pv 5) (fun _ _ => rfl)) (pa_cons (pv 15) pa_nil)))) (pss_one (ps_asg (pv 15) (pg_sub (pv 11) (pv 5) (set_dict (hu_of hr))))) pss_nil)))))))
      (pss_one (ps_set (i := 9) sc__law_own_paper.nd rfl (Or.inr rfl) (pv 11))))))
      (pss_cons (ps_setLc (i := 16) (own := [("s", 5)]) (g := (gName 5)) (tt := tYes) rfl sc__law_own_paper.nd rfl rfl (sw_true rfl rfl rfl (by decide +kernel)) (pi_range1 (by rfl) T.b_range (pa_cons (pe_callB call_len (by rfl) T.b_len (by decide +kernel) (pa_cons (pe_ix ix_tup (pv 0) pe_int (fun _ _ => rfl)) pa_nil)) pa_nil)) (blkOk_by (N := N__law_own_paper) (sc := defScope s__law_own_paper) (by decide +kernel)) (fun _ _ _ _ _ => (pg_name (i := 5) sc__law_own_paper.nd rfl (Or.inl rfl))) (fun _ _ _ _ _ => pts_nil) (fun _ _ _ _ _ => (pe_dget2 (hu_of hr) (pv 9) (pv 5) pe_non ⟨rfl, rfl, rfl, rfl⟩)))
      (pss_one (ps_ret (pe_tup (pa_cons (pv 6) (pa_cons (pv 16) (pa_cons (pe_dget (hu_of hr) (pv 3) (pv 7) (fun _ _ => rfl)) (pa_cons (pv 8) pa_nil))))))))))))))), ?_⟩
    have hC0 := hC
    obtain ⟨pc, pq, xs, rfl, hpc, hpq, hA⟩ := chn_at hC
    have xl := dpA_len hA
    rw [List.length_map] at xl
    have few := okC.few
    refine ⟨_, rfl, .ref pc, b, C, rfl, hC0, okC, fun H1 dW kvs ks s1 hdW0 hdW kd rc => ?_⟩
    refine ⟨dW, .dK kvs, hdW, True.intro, fun od => ⟨_, rfl, dW, od, rfl, .inl ⟨kvs, upd_same, fun L hL => lc_it walk_keys (fun i H' => Same (upd H1 dW (.frz od (.dK kvs))) H' ∧ H' L = some (.lst ((ks.take i).map vN))) ⟨same_new hL, upd_same⟩ (fun i H' _ e => e.1 _ _ upd_same) ?_ ?_⟩⟩⟩
    · rintro i x H2 H2' hi ⟨s2, hL2⟩ ⟨rfl, key, v0, hkv, rfl⟩
      obtain ⟨st, hst, rfl⟩ := kd.at_ hkv
      refine ⟨rfl, _, rfl, _, hL2, by rw [List.length_map, List.length_take]; have := kd.few; exact line6 (by omega), same_mut s2 hL, ?_⟩
      rw [upd_same, take_snoc hst, List.map_append]
      rfl
    · rintro H2 ⟨s2, hL2⟩
      rw [kd.len, List.take_length] at hL2
      refine ⟨s2 _ _ upd_same, ?_⟩
      have Ld : L ≠ dW := fun e => by rw [e, upd_same] at hL; cases hL
      have s3 := unfrz hdW s2
      have hL3 : upd H2 dW (.dK kvs) L = some (.lst (ks.map vN)) := by rw [upd_ne Ld]; exact hL2
      have hd3 := upd_same (H := H2) (a := dW) (o := .dK kvs)
      have kd3 := kd.mono (R' := fun _ v => Wd K (upd H2 dW (.dK kvs)) v 60) fun _ v _ h => h.same s3
      generalize upd H2 dW (.dK kvs) = H3 at s3 hL3 hd3 kd3
      have s13 := s1.trans s3
      have hw13 := hw.keep (KeepT.of_same s13)
      refine ⟨_, rfl, _, rfl, _, rfl, .ref pc, vw, L, b, C, W, ks, rfl, dp_same s13 _ _ hC0, okC, hw13, nd, wl, hW, hL3, rc, fun H4 v s4 bo => ?_⟩
      obtain ⟨pB, pp, st, pw, pace, rfl, hpB, hpp, lp, zp, stk, wpw⟩ := bo
      refine ⟨_, _, rfl, hpB, rfl, _, _, rfl, _, _, rfl, _, _, rfl, rfl, ?_⟩
      have s14 := s13.trans s4
      refine ⟨fun σ' H' => ∃ (L' : Addr) (ks' : List Nat) (y5 : Option V), σ' = [some (.ref pc), some vw, some (.bl wh), some (.ref dW), some (.ref L'), y5, some (.ref pp), some (vN st), some pw, none, none, none, none, none, none, none, none] ∧ Same H4 H' ∧ H' L' = some (.lst (ks'.map vN)) ∧ Rch C ks', ?_, ?_⟩
      · refine ⟨_, rfl, wh, rfl, ?_⟩
        cases wh with
        | false => exact ite2 (fun h => (nomatch (show false = true from h))) (fun _ => ⟨L, ks, _, rfl, Same.refl _, s4 _ _ hL3, rc⟩)
        | true =>
          refine ite2 (fun _ => ?_) (fun h => absurd rfl h)
          refine ⟨_, rfl, pc, _, _, _, rfl, rfl, same_t s14 hpc, atI_nat (j := 2) rfl, _, _, rfl, .inr ⟨_, same_t s14 hpq, rfl⟩, ?_⟩
          refine ⟨_, rfl, RgOk.of_le (by decide) (by omega) (by omega) (by omega), fun q1 hq1 => ⟨q1, List.range C.length, _, rfl, same_new hq1, ?_, Rch.all okC⟩⟩
          rw [upd_same, xl]
          unfold rgV
          rw [show (((C.length : Nat) : Int) - 0).toNat = C.length by omega]
          congr 2
          refine List.map_congr_left fun i _ => ?_
          show V.int (0 + (i : Int)) = V.int (i : Int)
          rw [Int.zero_add]
      · rintro σ' H5 ⟨L', ks', y5, rfl, s5, hL5, rc'⟩
        have s15 := s14.trans s5
        have hpp5 := same_t s5 hpp
        have wpw5 := wpw.same s5
        have hd5 := (s4.trans s5) _ _ hd3
        have kd5 := kd3.mono (R' := fun _ v => Wd K H5 v 60) fun _ v _ h => h.same (s4.trans s5)
        have hA5 := dpA_same s15 _ _ hA
        have hpc5 := same_t s15 hpc
        have hpq5 := same_t s15 hpq
        have hw5 := hw.keep (KeepT.of_same s15)
        have p0 := lp.pos
        obtain ⟨M, hM⟩ : ∃ M : Nat, pace.2 = (M : Int) := ⟨pace.2.toNat, by omega⟩
        have M0 : 0 < M := by omega
        have fp : Fr pace pace.1 M := ⟨lp, by rw [hM], M0⟩
        have M16 : M < 2 ^ 16 := by have := zp.2; omega
        refine fun dH hdH => ?_
        have sH := same_new (o := .dK []) hdH
        have hH6 := upd_same (H := H5) (a := dH) (o := .dK [])
        generalize upd H5 dH (.dK []) = H6 at sH hH6
        have ksf := nodup_lt _ rc'.nd rc'.lt
        refine ⟨_, rfl, L', rfl, ⟨_, SqL.of (sH _ _ hL5)⟩, for_list (K := K) (a := L') (xs := ks'.map vN) (fun i σ H' => ∃ (y5 : Option V) (kvs : List (L2.Key × V)) (qs : List Nat), σ = [some (.ref pc), some vw, some (.bl wh), some (.ref dW), some (.ref L'), y5, some (.ref pp), some (vN st), some pw, some (.ref dH), none, none, none, none, none, none, none] ∧ Same H5 H' ∧ H' dH = some (.dK kvs) ∧ KD C.length kvs qs (fun _ v => HtR K H' M 0 v) ∧ ∀ x ∈ ks'.take i, x ∈ qs) ⟨_, [], [], rfl, sH, hH6, KD.nil, fun _ h => absurd h List.not_mem_nil⟩ (fun i σ H' _ ⟨_, _, _, _, s, _⟩ => SqL.of (s _ _ hL5)) ?_ ?_⟩
        · rintro i x σ H7 hi ⟨y5, kvs7, qs7, rfl, s7, hd7, kd7, cl7⟩
          rw [List.getElem?_map] at hi
          obtain ⟨x0, hx0, rfl⟩ := Option.map_eq_some_iff.mp hi
          have xn := rc'.lt x0 (List.mem_of_getElem? hx0)
          have fw7 := kd7.few
          have ln7 := kd7.len
          refine ⟨z2, fun p hp => ?_⟩
          have s8 := same_new (o := .tup [.int 0, .int 1]) hp
          have r8 : HtR K (upd H7 p (.tup [.int 0, .int 1])) M 0 (.ref p) := ⟨p, (0, 1), 0, rfl, SqT.of upd_same, Fr.zero M0, Nat.zero_le _⟩
          have hd8 := s8 _ _ hd7
          generalize upd H7 p (.tup [.int 0, .int 1]) = H8 at s8 r8 hd8
          refine ⟨_, rfl, _, rfl, dH, _, rfl, DPut.k (k := kS x0) hd8 (line6 (by omega)), ?_⟩
          have kp := keepT_nt (o := .dK (putK kvs7 (kS x0) (.ref p))) (nt_dk _) hd8
          refine ⟨_, _, addK qs7 x0, rfl, same_mut (s7.trans s8) hdH, upd_same, (kd7.mono fun _ v _ h => (h.keep (KeepT.of_same s8)).keep kp).put xn (r8.keep kp), fun x hx => ?_⟩
          rw [take_snoc hx0] at hx
          rcases List.mem_append.mp hx with h | h
          · exact mem_addK.mpr (.inl (cl7 x h))
          · exact mem_addK.mpr (.inr (List.mem_singleton.mp h))
        · rintro σ H7 ⟨y5, kvs7, qs7, rfl, s7, hd7, kd7, cl7⟩
          rw [List.length_map, List.take_length] at cl7
          refine ⟨_, rfl, _, _, rfl, .inl ⟨_, SqL.of (s7 _ _ hL5), rfl⟩, _, rfl, by rw [List.length_map]; omega, by rw [List.length_map]; omega, for_range (lo := 0) (n := (((ks'.map vN).length : Nat) : Int).toNat) (fun j σ H' => ∃ (dH : Addr) (y5 y10 y11 y12 y13 y14 y15 : Option V) (kvs : List (L2.Key × V)) (qs : List Nat), σ = [some (.ref pc), some vw, some (.bl wh), some (.ref dW), some (.ref L'), y5, some (.ref pp), some (vN st), some pw, some (.ref dH), y10, y11, y12, y13, y14, y15, none] ∧ Same H5 H' ∧ H5 dH = none ∧ H' dH = some (.dK kvs) ∧ KD C.length kvs qs (fun _ v => HtR K H' M j v) ∧ ∀ x ∈ ks', x ∈ qs) ⟨dH, _, _, _, _, _, _, _, _, _, rfl, s7, hdH, hd7, kd7, cl7⟩ ?_ ?_⟩
          · rintro j σ H8 hj ⟨dH, y5, y10, y11, y12, y13, y14, y15, kvs8, qs8, rfl, s8, hdH0, hd8, kd8, cl8⟩
            rw [Int.toNat_natCast, List.length_map] at hj
            refine fun dF hdF => ?_
            have dFH : dF ≠ dH := (ne_of_none hd8 hdF).symm
            have hdF0 : H5 dF = none := s8.free hdF
            have s9 := s8.trans (same_new (o := .dK []) hdF)
            have hd9 := same_new (o := .dK []) hdF _ _ hd8
            have hF9 := upd_same (H := H8) (a := dF) (o := .dK [])
            have kd9 := kd8.mono (R' := fun _ v => HtR K (upd H8 dF (.dK [])) M j v) fun _ v _ h => h.keep (KeepT.of_same (same_new hdF))
            generalize upd H8 dF (.dK []) = H9 at s9 hd9 hF9 kd9
            refine ⟨_, rfl, L', rfl, ⟨_, SqL.of (s9 _ _ hL5)⟩, for_list (K := K) (a := L') (xs := ks'.map vN) (fun i σ H' => ∃ (y5 y12 y13 y14 y15 : Option V) (kvs : List (L2.Key × V)) (qs : List Nat), σ = [some (.ref pc), some vw, some (.bl wh), some (.ref dW), some (.ref L'), y5, some (.ref pp), some (vN st), some pw, some (.ref dH), some (.int (0 + (j : Int))), some (.ref dF), y12, y13, y14, y15, none] ∧ Same H5 H' ∧ H' dH = some (.dK kvs8) ∧ KD C.length kvs8 qs8 (fun _ v => HtR K H' M j v) ∧ H' dF = some (.dK kvs) ∧ KD C.length kvs qs (fun _ v => HtR K H' M (j + 1) v) ∧ ∀ x ∈ ks'.take i, x ∈ qs) ⟨_, _, _, _, _, [], [], rfl, s9, hd9, kd9, hF9, KD.nil, fun _ h => absurd h List.not_mem_nil⟩ (fun i σ H' _ ⟨_, _, _, _, _, _, _, _, s, _⟩ => SqL.of (s _ _ hL5)) ?_ ?_⟩
            · rintro i x σ H10 hi ⟨y5, y12, y13, y14, y15, kvs10, qs10, rfl, s10, hd10, kdH10, hF10, kd10, cl10⟩
              rw [List.getElem?_map] at hi
              obtain ⟨x0, hx0, rfl⟩ := Option.map_eq_some_iff.mp hi
              have xm := List.mem_of_getElem? hx0
              have xn := rc'.lt x0 xm
              have fw10 := kd10.few
              have ln10 := kd10.len
              obtain ⟨vh, evh, rh⟩ := kdH10.val x0 (cl8 x0 xm)
              refine ⟨_, rfl, _, rfl, dH, vh, rfl, by rw [← evh]; exact DGet.k (k := kS x0) hd10, ?_⟩
              refine ⟨_, rfl, _, rfl, dF, _, rfl, DPut.k (k := kS x0) hF10 (line6 (by omega)), ?_⟩
              have kp := keepT_nt (o := .dK (putK kvs10 (kS x0) vh)) (nt_dk _) hF10
              have s11 := same_mut (o := .dK (putK kvs10 (kS x0) vh)) s10 hdF0
              have hd11 : upd H10 dF (.dK (putK kvs10 (kS x0) vh)) dH = some (.dK kvs8) := by rw [upd_ne dFH.symm]; exact hd10
              have hF11 := upd_same (H := H10) (a := dF) (o := .dK (putK kvs10 (kS x0) vh))
              have kdH11 := kdH10.mono (R' := fun _ v => HtR K (upd H10 dF (.dK (putK kvs10 (kS x0) vh))) M j v) fun _ v _ h => h.keep kp
              have kd11 := (kd10.mono (R' := fun _ v => HtR K (upd H10 dF (.dK (putK kvs10 (kS x0) vh))) M (j + 1) v) fun _ v _ h => h.keep kp).put xn (rh.up.keep kp)
              have cl11 : ∀ x ∈ ks'.take (i + 1), x ∈ addK qs10 x0 := fun x hx => by
                rw [take_snoc hx0] at hx
                rcases List.mem_append.mp hx with h | h
                · exact mem_addK.mpr (.inl (cl10 x h))
                · exact mem_addK.mpr (.inr (List.mem_singleton.mp h))
              have xq : x0 ∈ addK qs10 x0 := mem_addK.mpr (.inr rfl)
              generalize addK qs10 x0 = qs11 at kd11 cl11 xq
              generalize putK kvs10 (kS x0) vh = kvs11 at s11 hd11 hF11 kdH11 kd11
              generalize upd H10 dF (.dK kvs11) = H11 at s11 hd11 hF11 kdH11 kd11
              obtain ⟨xr, hxr, dr⟩ := dpA_get hA5 (rowOf_at xn)
              obtain ⟨pr, rs, rfl, hpr, hrs⟩ := dp_tup dr
              have rl := dpA_len hrs
              rw [List.length_map] at rl
              have okr := okC.row _ (List.mem_of_getElem? (rowOf_at xn))
              refine ⟨_, rfl, pc, _, _, _, rfl, rfl, same_t s11 hpc5, atI_nat (j := 2) rfl, _, rfl, pq, _, _, _, rfl, rfl, same_t s11 hpq5, atI_nat hxr, pr, rfl, ⟨_, same_t s11 hpr⟩, for_tup (K := K) (a := pr) (xs := rs) (fun k σ H' => ∃ (y12 y13 y14 y15 : Option V) (kvs : List (L2.Key × V)) (qs : List Nat), σ = [some (.ref pc), some vw, some (.bl wh), some (.ref dW), some (.ref L'), some (vN x0), some (.ref pp), some (vN st), some pw, some (.ref dH), some (.int (0 + (j : Int))), some (.ref dF), y12, y13, y14, y15, none] ∧ Same H5 H' ∧ H' dH = some (.dK kvs8) ∧ KD C.length kvs8 qs8 (fun _ v => HtR K H' M j v) ∧ H' dF = some (.dK kvs) ∧ KD C.length kvs qs (fun _ v => HtR K H' M (j + 1) v) ∧ (∀ x ∈ ks'.take (i + 1), x ∈ qs) ∧ x0 ∈ qs) ⟨_, _, _, _, kvs11, qs11, rfl, s11, hd11, kdH11, hF11, kd11, cl11, xq⟩ (fun k σ H' _ ⟨_, _, _, _, _, _, _, s, _⟩ => same_t s hpr) ?_ ?_⟩
              · rintro k y σ H12 hk ⟨y12, y13, y14, y15, kvs12, qs12, rfl, s12, hd12, kdH12, hF12, kd12, cl12, xq12⟩
                obtain ⟨br, hbr, hy⟩ := dpA_mem (dpA_same s12 _ _ hrs) hk
                obtain ⟨pb, z0, z1', rfl, hpb, hd0, hd1⟩ := br_at hy
                have bm := List.mem_of_getElem? hbr
                have okb := okr.to br bm
                have fw12 := kd12.few
                have ln12 := kd12.len
                obtain ⟨vt, evt, ph, fh, Nh, rfl, hph, frh, nbh⟩ := kdH12.val br.2.2 (cl8 _ (rc'.on x0 xm br bm))
                obtain ⟨vs', evs, pf, ff, Nf, rfl, hpf, frf, nbf⟩ := kd12.val x0 xq12
                obtain ⟨lw, zw⟩ := w1 (wv W br.2.1) (by have := wv_le hW br.2.1; have := okb.2; omega)
                have wb := wv_le hW br.2.1
                have b6 := okb.2
                have frw : Fr (wv W br.2.1, 1) (wv W br.2.1 * (M : Int)) M := ⟨lw, by simp, M0⟩
                have jb : j < 50 := by omega
                have szh : Sz 40 fh := frh.sz (k := 40) (by omega) (by omega)
                have szf : Sz 40 ff := frf.sz (k := 40) (by omega) (by omega)
                have frm := frw.sub fp
                have szm : Sz 40 (frp (sub2 (wv W br.2.1, 1) pace)) := sz_up (fr_sz (sub2_sz zw zp)) (by decide)
                have frn := frm.add frh
                have nbn : (wv W br.2.1 * (M : Int) - pace.1 + Nh).natAbs ≤ 2 ^ 26 * (j + 1) := by
                  have h1 : (wv W br.2.1 * (M : Int)).natAbs ≤ 594 * 2 ^ 16 := by
                    rw [Int.natAbs_mul, Int.natAbs_natCast]
                    exact Nat.mul_le_mul (by omega) (by omega)
                  have h2 := zp.1
                  omega
                have szn : Sz 100 (frp (add2 (frp (sub2 (wv W br.2.1, 1) pace)) fh)) := sz_up (fr_sz (add2_sz szm szh)) (by decide)
                refine ⟨_, _, rfl, hpb, rfl, _, _, rfl, _, _, rfl, _, _, rfl, rfl, ?_⟩
                refine ⟨_, rfl, _, rfl, vw, z1', W, br.2.1, rfl, hw5.keep (KeepT.of_same s12), nd, wl, hd1, by omega, fun Ha sa => ⟨z2, fun N hN => ?_⟩⟩
                have sb := sa.trans (same_new (o := .tup [.int (wv W br.2.1), .int 1]) hN)
                have hN1 : SqT K (upd Ha N (.tup [.int (wv W br.2.1), .int 1])) N (tupV (wv W br.2.1, 1)) := SqT.of upd_same
                generalize upd Ha N (.tup [.int (wv W br.2.1), .int 1]) = Hb at sb hN1
                refine ⟨_, rfl, N, pp, (wv W br.2.1, 1), pace, rfl, hN1, same_t (s12.trans sb) hpp5, sz_up zw (by decide), sz_up zp (by decide), add2_ne lw lp, fun p2 hp2 => ?_⟩
                have sc := sb.trans (same_new (o := tupF (frp (sub2 (wv W br.2.1, 1) pace))) hp2)
                have h2 := sq_new (K := K) (H := Hb) (p := p2) (f := frp (sub2 (wv W br.2.1, 1) pace))
                generalize frp (sub2 (wv W br.2.1, 1) pace) = f2 at sc h2 frm szm frn szn
                generalize upd Hb p2 (tupF f2) = Hc at sc h2
                refine ⟨_, rfl, _, rfl, dH, _, rfl, by rw [← evt]; exact DGet.k (k := kS br.2.2) (sc _ _ hd12), p2, ph, f2, fh, rfl, h2, same_t sc hph, sz_up szm (by decide), sz_up szh (by decide), add2_ne frm.low frh.low, fun p3 hp3 => ?_⟩
                have sd := sc.trans (same_new (o := tupF (frp (add2 f2 fh))) hp3)
                have h3 := sq_new (K := K) (H := Hc) (p := p3) (f := frp (add2 f2 fh))
                generalize frp (add2 f2 fh) = f3 at sd h3 frn szn
                generalize upd Hc p3 (tupF f3) = Hd at sd h3
                have kdHd := kdH12.mono (R' := fun _ v => HtR K Hd M j v) fun _ v _ h => h.keep (KeepT.of_same sd)
                have kdd := kd12.mono (R' := fun _ v => HtR K Hd M (j + 1) v) fun _ v _ h => h.keep (KeepT.of_same sd)
                refine ⟨_, rfl, _, rfl, dF, _, rfl, by rw [← evs]; exact DGet.k (k := kS x0) (sd _ _ hF12), _, rfl, pf, p3, ff, f3, rfl, same_t sd hpf, h3, sz_up szf (by decide), sz_up szn (by decide), ?_⟩
                refine ⟨_, rfl, ite2 (fun _ => ?_) (fun _ => ⟨_, _, _, _, kvs12, qs12, rfl, s12.trans sd, sd _ _ hd12, kdHd, sd _ _ hF12, kdd, cl12, xq12⟩)⟩
                have hFd := sd _ _ hF12
                refine ⟨_, rfl, _, rfl, _, rfl, dF, _, rfl, DPut.k (k := kS x0) hFd (line6 (by omega)), ?_⟩
                have kp := keepT_nt (o := .dK (putK kvs12 (kS x0) (.ref p3))) (nt_dk _) hFd
                have r3 : HtR K Hd M (j + 1) (.ref p3) := ⟨p3, f3, _, rfl, h3, frn, nbn⟩
                exact ⟨_, _, _, _, _, addK qs12 x0, rfl, same_mut (s12.trans sd) hdF0, by rw [upd_ne dFH.symm]; exact sd _ _ hd12, kdHd.mono fun _ v _ h => h.keep kp, upd_same, (kdd.mono fun _ v _ h => h.keep kp).put xn (r3.keep kp), fun x hx => mem_addK.mpr (.inl (cl12 x hx)), mem_addK.mpr (.inr rfl)⟩
              · rintro σ H12 ⟨y12, y13, y14, y15, kvs12, qs12, rfl, s12, hd12, kdH12, hF12, kd12, cl12, xq12⟩
                exact ⟨_, _, _, _, _, kvs12, qs12, rfl, s12, hd12, kdH12, hF12, kd12, cl12⟩
            · rintro σ H10 ⟨y5, y12, y13, y14, y15, kvs10, qs10, rfl, s10, hd10, kdH10, hF10, kd10, cl10⟩
              rw [List.length_map, List.take_length] at cl10
              exact ⟨_, rfl, dF, _, _, _, _, _, _, _, kvs10, qs10, rfl, s10, hdF0, hF10, kd10, cl10⟩
          · rintro σ H8 ⟨dH, y5, y10, y11, y12, y13, y14, y15, kvs8, qs8, rfl, s8, hdH0, hd8, kd8, cl8⟩
            rw [Int.toNat_natCast, List.length_map] at kd8
            have s18 := s15.trans s8
            refine ⟨_, rfl, pc, _, _, _, rfl, rfl, same_t s18 hpc, atI_nat (j := 2) rfl, _, _, rfl, .inr ⟨_, same_t s18 hpq, rfl⟩, _, rfl, by omega, by omega, fun R hR => lc_range (lo := 0) (n := ((xs.length : Nat) : Int).toNat) (fun i H' => Same H8 H' ∧ ∃ (us : List V) (pots : List (Option F2)), H' R = some (.lst us) ∧ DpAll K H' us (pots.map dO) ∧ pots.length = i ∧ ∀ f, some f ∈ pots → Low f ∧ Sz 40 f) ⟨same_new hR, [], [], upd_same, .nil, rfl, fun _ h => absurd h List.not_mem_nil⟩ ?_ ?_⟩
            · rintro i H9 hi ⟨s9, us, pots, hR9, hus, pl, pok⟩
              rw [Int.toNat_natCast, xl] at hi
              have ul := dpA_len hus
              rw [List.length_map] at ul
              have e0 : (0 : Int) + (i : Int) = (i : Int) := Int.zero_add _
              have hd9 := s9 _ _ hd8
              have fin : ∀ (x : V) (o : Option F2), Dp K H9 x (dO o) → (∀ f, o = some f → Low f ∧ Sz 40 f) → ∃ acc, H9 R = some (.lst acc) ∧ acc.length < sizeLine ∧ Same H8 (upd H9 R (.lst (acc ++ [x]))) ∧ ∃ (us : List V) (pots : List (Option F2)), upd H9 R (.lst (acc ++ [x])) R = some (.lst us) ∧ DpAll K (upd H9 R (.lst (acc ++ [x]))) us (pots.map dO) ∧ pots.length = i + 1 ∧ ∀ f, some f ∈ pots → Low f ∧ Sz 40 f := fun x o hx ho => by
                have kR := keepT_nt (o := .lst (us ++ [x])) (nt_lst _) hR9
                have nO : ∀ o : Option F2, noL (dO o) = true := fun o => by cases o <;> rfl
                refine ⟨us, hR9, line6 (by omega), same_mut s9 hR, us ++ [x], pots ++ [o], upd_same, ?_, by rw [List.length_append, List.length_singleton, pl], fun f hf => ?_⟩
                · rw [List.map_append]
                  exact dpA_snoc (dpA_keep kR _ _ (noLs_map dO pots fun o _ => nO o) hus) (dp_keep kR _ _ (nO o) hx)
                · rcases List.mem_append.mp hf with h | h
                  · exact pok f h
                  · exact ho f (List.mem_singleton.mp h).symm
              refine ⟨rfl, _, rfl, dH, rfl, .inl ⟨_, .inl hd9⟩, _, rfl, _, by rw [e0]; exact DGet.k (k := kS i) hd9, ?_⟩
              by_cases c : i ∈ qs8
              · obtain ⟨v8, ev8, p8, f8, N8, rfl, hp8, fr8, nb8⟩ := kd8.val i c
                rw [ev8]
                refine fin (.ref p8) (some f8) (dp_F (same_t s9 hp8)) fun f e => ?_
                cases e
                exact ⟨fr8.low, fr8.sz (k := 40) (by omega) (by omega)⟩
              · have hn : valV kvs8 (kS i) = none := by
                  have := kd8.is i
                  rw [decide_eq_false c] at this
                  exact Option.isSome_eq_false_iff.mp this |> Option.isNone_iff_eq_none.mp
                rw [hn]
                exact fin .non none .non fun f e => nomatch e
            · rintro H9 ⟨s9, us, pots, hR9, hus, pl, pok⟩
              rw [Int.toNat_natCast, xl] at pl
              obtain ⟨vW, evW, wW⟩ := kd5.val st stk
              have s59 := s8.trans s9
              refine ⟨_, rfl, _, rfl, _, rfl, _, rfl, dW, vW, rfl, by rw [← evW]; exact DGet.k (k := kS st) (s59 _ _ hd5), _, rfl, z4, fun p hp => ?_⟩
              have sp := same_new (o := .tup [.ref pp, .ref R, vW, pw]) hp
              have s5p := s59.trans sp
              exact q _ _ (s15.trans s5p) ⟨p, pp, R, vW, pw, pace, us, pots, rfl, SqT.of upd_same, same_t s5p hpp5, lp, zp, s18.free hR, sp _ _ hR9, dpA_same sp _ _ hus, pl, pok, wW.same s5p, wpw5.same s5p⟩
end
end Mt
namespace Mt
open PySem PySem.Spec PyProof.Rows L2
theorem noL_O (o : Option F2) : noL (dO o) = true := by cases o <;> rfl
theorem noLs_O (l : List (Option F2)) : noLs (l.map dO) = true := noLs_map dO l fun o _ => noL_O o
/-- potentials in a new list -/
def PtI (K : PySem.W.Frag) (H H' : Hp) (pL : Addr) (e : Nat) (ln : Nat → Prop) : Prop := H pL = none ∧ ∃ (us : List V) (pots : List (Option F2)), H' pL = some (.lst us) ∧ DpAll K H' us (pots.map dO) ∧ ln pots.length ∧ ∀ f, some f ∈ pots → Low f ∧ Sz e f
def PcI (K : PySem.W.Frag) (H' : Hp) (pp : Addr) (k : Nat) : Prop := ∃ pace : F2, SqT K H' pp (tupV pace) ∧ Low pace ∧ Sz k pace
theorem PcI.keep {K : PySem.W.Frag} {H H' : Hp} {pp : Addr} {k : Nat} (t : KeepT H H') (h : PcI K H pp k) : PcI K H' pp k := let ⟨p, a, b, c⟩ := h; ⟨p, sqt_keep t a, b, c⟩
theorem PcI.up {K : PySem.W.Frag} {H : Hp} {pp : Addr} {k l : Nat} (h : PcI K H pp k) (hl : k ≤ l) : PcI K H pp l := let ⟨p, a, b, c⟩ := h; ⟨p, a, b, sz_up c hl⟩
theorem PtI.go {K : PySem.W.Frag} {S D : Addr} {H H1 H2 : Hp} {pL : Addr} {e : Nat} {ln : Nat → Prop} (d : DrawAt S D H) (g : Go S D H H1) (g2 : Go S D H1 H2) (h : PtI K H H1 pL e ln) : PtI K H H2 pL e ln :=
  let ⟨a, us, pots, b, c, l, f⟩ := h
  ⟨a, us, pots, g2.2 _ _ b (d.free a).1, dpA_keep (Go.keepT g.1 g2) _ _ (noLs_O pots) c, l, f⟩
theorem PtI.up {K : PySem.W.Frag} {H H' : Hp} {pL : Addr} {e e' : Nat} {ln ln' : Nat → Prop} (h : PtI K H H' pL e ln) (he : e ≤ e') (hl : ∀ n, ln n → ln' n) : PtI K H H' pL e' ln' :=
  let ⟨a, us, pots, b, c, l, f⟩ := h
  ⟨a, us, pots, b, c, hl _ l, fun x hx => ⟨(f x hx).1, sz_up (f x hx).2 he⟩⟩
def spSomeP (K : PySem.W.Frag) : Sp := fun vs H Q _ => ∃ (S D : Addr) (vc vw : V) (z : Str) (b : Int) (C : Chn) (W : List (Str × Int)), vs = [.ref D, vc, vw, .str z] ∧ DrawAt S D H ∧ Dp K H vc (dChn b C) ∧ ChnOk b C ∧ WAtS K H vw W ∧ (W.map (·.1)).Nodup ∧ W.length ≤ 1000 ∧ (∀ e ∈ W, e.2.natAbs ≤ 99) ∧
  ∀ (H' : Hp) (v : V) (pace : F2) (pots : List (Option F2)) (way ring : List (List Int)), Go S D H H' → Dp K H' v (dPap pace pots way ring) → PapOk pace pots way ring → Q v H'
theorem lowMore : Low (10 ^ (40 : Int).toNat + 1, 7) := ⟨by decide, by decide +kernel⟩
theorem szMore : Sz 140 (10 ^ (40 : Int).toNat + 1, 7) := ⟨by decide +kernel, by decide +kernel⟩
abbrev InvP (K : PySem.W.Frag) (S D : Addr) (H : Hp) (vc vw : V) (z : Str) (turn : Int) (sN : Nat) (pm : Addr) (k e m : Nat) (ln : Nat → Prop) : L2.St → Hp → Prop := fun σ' H' => ∃ (pp pL : Addr) (ww wr : V) (y11 y12 : Option V), σ' = [some (.ref D), some vc, some vw, some (.str z), some (.ref pp), some (.ref pL), some ww, some wr, some (.int turn), some (.int (sN : Int)), some (.ref pm), y11, y12] ∧ Go S D H H' ∧ PtI K H H' pL e ln ∧ PcI K H' pp k ∧ PcI K H' pm 140 ∧ Wd K H' ww m ∧ Wd K H' wr m
theorem pushO {K : PySem.W.Frag} {H : Hp} {L : Addr} {us : List V} {pots : List (Option F2)} {x : V} {o : Option F2} (hL : H L = some (.lst us)) (hus : DpAll K H us (pots.map dO)) (hx : Dp K H x (dO o)) : DpAll K (upd H L (.lst (us ++ [x]))) (us ++ [x]) ((pots ++ [o]).map dO) := by
  have kR := keepT_nt (o := .lst (us ++ [x])) (nt_lst _) hL
  rw [List.map_append]
  exact dpA_snoc (dpA_keep kR _ _ (noLs_O pots) hus) (dp_keep kR _ _ (noL_O o) hx)
theorem setO {K : PySem.W.Frag} {H : Hp} {L : Addr} {us : List V} {pots : List (Option F2)} {x : V} {o : Option F2} (j : Nat) (hL : H L = some (.lst us)) (hus : DpAll K H us (pots.map dO)) (hx : Dp K H x (dO o)) : DpAll K (upd H L (.lst (us.set j x))) (us.set j x) ((pots.set j o).map dO) := by
  have kR := keepT_nt (o := .lst (us.set j x)) (nt_lst _) hL
  rw [List.map_set]
  exact dpA_set j (dpA_keep kR _ _ (noLs_O pots) hus) (dp_keep kR _ _ (noL_O o) hx)
theorem ok_set {pots : List (Option F2)} {e : Nat} {j : Nat} {o : Option F2} (h : ∀ f, some f ∈ pots → Low f ∧ Sz e f) (ho : ∀ f, o = some f → Low f ∧ Sz e f) : ∀ f, some f ∈ pots.set j o → Low f ∧ Sz e f := fun f hf => by
  rcases List.mem_or_eq_of_mem_set hf with h' | h'
  · exact h f h'
  · exact ho f h'.symm
theorem ok_snoc {pots : List (Option F2)} {e : Nat} {o : Option F2} (h : ∀ f, some f ∈ pots → Low f ∧ Sz e f) (ho : ∀ f, o = some f → Low f ∧ Sz e f) : ∀ f, some f ∈ pots ++ [o] → Low f ∧ Sz e f := fun f hf => by
  rcases List.mem_append.mp hf with h' | h'
  · exact h f h'
  · exact ho f (List.mem_singleton.mp h').symm
theorem o_at {K : PySem.W.Frag} {H : Hp} {us : List V} {pots : List (Option F2)} {i : Nat} {x : V} (h : DpAll K H us (pots.map dO)) (e : us[i]? = some x) : ∃ o, pots[i]? = some o ∧ Dp K H x (dO o) := dpA_mem h e
theorem cutO {K : PySem.W.Frag} {H : Hp} {us : List V} {pots : List (Option F2)} {lo hi : Option Int} {e : Nat} (h : DpAll K H us (pots.map dO)) (ok : ∀ f, some f ∈ pots → Low f ∧ Sz e f) : ∃ cs : List (Option F2), DpAll K H (cutV us lo hi) (cs.map dO) ∧ cs.length ≤ pots.length ∧ ∀ f, some f ∈ cs → Low f ∧ Sz e f := by
  refine ⟨(pots.drop (HT.sIx us.length 0 lo)).take (HT.sIx us.length us.length hi - HT.sIx us.length 0 lo), ?_, ?_, fun f hf => ok f (List.mem_of_mem_drop (List.mem_of_mem_take hf))⟩
  · rw [List.map_take, List.map_drop]
    exact dpA_take _ (dpA_drop _ h)
  · rw [List.length_take, List.length_drop]
    omega
theorem sz0' : Sz 1 (0, 1) := sz0
theorem low72 : Low (7, 2) := ⟨by decide, by decide⟩
section
variable {P : Program} {w : World} {K : PySem.W.Frag} {mg : Str → Option Value} {base : Heap}
set_option maxHeartbeats 4000000 in
theorem ok__law_some_paper (T : Txt K mg) (D__law_draw : Kept P w K mg base 1 "_law_draw" ["d", "many"] spDraw) (D__law_pick : Kept P w K mg base 2 "_law_pick" ["d", "row"] (spPick K)) (D__law_rare : Kept P w K mg base 2 "_law_rare" ["d", "many"] spRare) (D__law_frac : Kept P w K mg base 1 "_law_frac" ["n", "d"] spFrac) (D__law_plus : Kept P w K mg base 2 "_law_plus" ["a", "b"] (spBin K add2)) (D__law_some_ring : Kept P w K mg base 3 "_law_some_ring" ["d", "chain", "mark"] (spSomeRg K)) (D__law_bent_ring : Kept P w K mg base 3 "_law_bent_ring" ["d", "base", "way", "ring"] (spBentRg K)) (D__law_own_paper : Kept P w K mg base 3 "_law_own_paper" ["chain", "worths", "whole"] (spOwn K)) {f : Addr} {fd : FuncData} (F : FnP K "_law_some_paper" s__law_some_paper f fd) : FnOk P w K mg base CX0 4 f fd ["d", "chain", "worths", "mark"] (spSomeP K) := by
  refine F.ok sc__law_some_paper (fun vs H Q E h => ?_) (fun cdv A outer s H vs Q E hr h => ?_)
  · obtain ⟨S, D, vc, vw, z, b, C, W, rfl, _⟩ := h
    rfl
  · obtain ⟨S, D, vc, vw, z, b, C, W, rfl, d, hC, okC, hw, nd, wl, hW, q⟩ := h
    refine ⟨_, PSs.nox (pss_cons (ps_asg (pe_d D__law_own_paper (hr.mono (by decide)) (by rfl) (pa_cons (pv 1) (pa_cons (pv 2) (pa_cons (pe_cmpR op_eq (pe_d D__law_draw (hr.mono (by decide)) (by rfl) (pa_cons (pv 0) (pa_cons pe_int pa_nil))) pe_int (nomark _)) pa_nil)))) (pg_tup rfl (pgs_cons (pg_name (i := 4) sc__law_some_paper.nd rfl (Or.inl rfl)) (pgs_cons (pg_name (i := 5) sc__law_some_paper.nd rfl (Or.inl rfl)) (pgs_cons (pg_name (i := 6) sc__law_some_paper.nd rfl (Or.inl rfl)) (pgs_cons (pg_name (i := 7) sc__law_some_paper.nd rfl (Or.inl rfl)) pgs_nil))))))
      (pss_cons (ps_set (i := 8) sc__law_some_paper.nd rfl (Or.inl rfl) (pe_d D__law_draw (hr.mono (by decide)) (by rfl) (pa_cons (pv 0) (pa_cons pe_int pa_nil))))
      (pss_cons (ps_set (i := 9) sc__law_some_paper.nd rfl (Or.inl rfl) (pe_d D__law_draw (hr.mono (by decide)) (by rfl) (pa_cons (pv 0) (pa_cons (pe_callB call_len (by rfl) T.b_len (by decide +kernel) (pa_cons (pv 5) pa_nil)) pa_nil))))
      (pss_cons (ps_set (i := 10) sc__law_some_paper.nd rfl (Or.inl rfl) (pe_d D__law_frac (hr.mono (by decide)) (by rfl) (pa_cons (pe_op op_sub (pe_d D__law_draw (hr.mono (by decide)) (by rfl) (pa_cons (pv 0) (pa_cons pe_int pa_nil))) pe_int) (pa_cons (pe_op op_add pe_int (pe_d D__law_draw (hr.mono (by decide)) (by rfl) (pa_cons (pv 0) (pa_cons pe_int pa_nil)))) pa_nil))))
      (Evl.pss_cut (ps_if (pt_val (pe_d D__law_rare (hr.mono (by decide)) (by rfl) (pa_cons (pv 0) (pa_cons pe_int pa_nil)))) (pss_one (ps_set (i := 10) sc__law_some_paper.nd rfl (Or.inl rfl) (pe_tup (pa_cons (pe_op op_add (pe_op op_pow pe_int pe_int) pe_int) (pa_cons pe_int pa_nil))))) pss_nil)
      (Evl.pss_cut (ps_if (pt_cmpR op_eq (pv 8) pe_int (nomark _)) (pss_cons (ps_set (i := 11) sc__law_some_paper.nd rfl (Or.inl rfl) (pe_lst pa_nil))
      (pss_cons (ps_for PassesOwn.never rfl (pi_list (pv 5)) (pg_name (i := 12) sc__law_some_paper.nd rfl (Or.inl rfl)) (pss_one (ps_if (pt_cmpR op_isN (pv 12) pe_non (nomark _)) (pss_one (ps_expr (pe_bm PySem.F.plainAttrs_list PySem.F.slot_list_append PySem.F.type_list_append mt_append (pv 11) (pa_cons pe_non pa_nil)))) (pss_one (ps_expr (pe_bm PySem.F.plainAttrs_list PySem.F.slot_list_append PySem.F.type_list_append mt_append (pv 11) (pa_cons (pe_d D__law_plus (hr.mono (by decide)) (by rfl) (pa_cons (pv 12) (pa_cons (pv 10) pa_nil))) pa_nil)))))))
      (pss_one (ps_set (i := 5) sc__law_some_paper.nd rfl (Or.inl rfl) (pv 11))))) pss_nil)
      (Evl.pss_cut (ps_if (PW.pt (pw_and (pt_cmpR op_eq (pv 8) pe_int (nomark _)) (pw_and1 (pt_cmpR op_notN (pe_ix ix_list (pv 5) (pv 9) (fun _ _ => rfl)) pe_non (nomark _))))) (pss_one (ps_asg (pe_d D__law_plus (hr.mono (by decide)) (by rfl) (pa_cons (pe_ix ix_list (pv 5) (pv 9) (fun _ _ => rfl)) (pa_cons (pv 10) pa_nil))) (pg_sub (pv 5) (pv 9) set_list))) pss_nil)
      (Evl.pss_cut (ps_if (pt_cmpR op_eq (pv 8) pe_int (nomark _)) (pss_one (ps_asg pe_non (pg_sub (pv 5) (pv 9) set_list))) pss_nil)
      (Evl.pss_cut (ps_if (pt_cmpR op_eq (pv 8) pe_int (nomark _)) (pss_one (ps_set (i := 5) sc__law_some_paper.nd rfl (Or.inl rfl) (pe_d D__law_pick (hr.mono (by decide)) (by rfl) (pa_cons (pv 0) (pa_cons (pe_lst (pa_cons (pe_slice sl_list (pv 5) po_none (po_some (pe_un un_neg pe_int))) (pa_cons (pe_op op_cat (pv 5) (pe_lst (pa_cons (pe_tup (pa_cons pe_int (pa_cons pe_int pa_nil))) pa_nil))) (pa_cons (pe_op op_cat (pv 5) (pe_lst (pa_cons pe_non pa_nil))) pa_nil)))) pa_nil))))) pss_nil)
      (Evl.pss_cut (ps_if (pt_cmpR op_eq (pv 8) pe_int (nomark _)) (pss_one (ps_set (i := 4) sc__law_some_paper.nd rfl (Or.inl rfl) (pe_d D__law_plus (hr.mono (by decide)) (by rfl) (pa_cons (pv 4) (pa_cons (pv 10) pa_nil))))) pss_nil)
      (Evl.pss_cut (ps_if (pt_cmpR op_eq (pv 8) pe_int (nomark _)) (pss_one (ps_asg (pe_d D__law_some_ring (hr.mono (by decide)) (by rfl) (pa_cons (pv 0) (pa_cons (pv 1) (pa_cons (pv 3) pa_nil)))) (pg_tup rfl (pgs_cons (pg_name (i := 6) sc__law_some_paper.nd rfl (Or.inl rfl)) (pgs_cons (pg_name (i := 7) sc__law_some_paper.nd rfl (Or.inl rfl)) pgs_nil))))) pss_nil)
      (Evl.pss_cut (ps_if (PW.pt (pw_or (pt_cmpR op_eq (pv 8) pe_int (nomark _)) (pw_or1 (pt_cmpR op_eq (pv 8) pe_int (nomark _))))) (pss_one (ps_asg (pe_d D__law_bent_ring (hr.mono (by decide)) (by rfl) (pa_cons (pv 0) (pa_cons (pe_ix ix_tup (pv 1) pe_int (fun _ _ => rfl)) (pa_cons (pv 6) (pa_cons (pv 7) pa_nil))))) (pg_tup rfl (pgs_cons (pg_name (i := 6) sc__law_some_paper.nd rfl (Or.inl rfl)) (pgs_cons (pg_name (i := 7) sc__law_some_paper.nd rfl (Or.inl rfl)) pgs_nil))))) pss_nil)
      (Evl.pss_cut (ps_if (pt_cmpR op_eq (pv 8) pe_int (nomark _)) (pss_one (ps_setLc (i := 5) (own := [("part", 12)]) (g := (gName 12)) (tt := tYes) rfl sc__law_some_paper.nd rfl rfl (sw_true rfl rfl rfl (by decide +kernel)) (pi_list (pv 5)) (blkOk_by (N := N__law_some_paper) (sc := defScope s__law_some_paper) (by decide +kernel)) (fun _ _ _ _ _ => (pg_name (i := 12) sc__law_some_paper.nd rfl (Or.inl rfl))) (fun _ _ _ _ _ => pts_nil) (fun _ _ _ _ _ => (pe_d D__law_pick (hr.mono (by decide)) (by rfl) (pa_cons (pv 0) (pa_cons (pe_lst (pa_cons (pv 12) (pa_cons (pe_tup (pa_cons pe_int (pa_cons pe_int pa_nil))) pa_nil))) pa_nil)))))) pss_nil)
      (pss_one (ps_ret (pe_tup (pa_cons (pv 4) (pa_cons (pe_callTy call_tuple_of (by rfl) T.b_tuple (by decide +kernel) (pa_cons (pv 5) pa_nil)) (pa_cons (pv 6) (pa_cons (pv 7) pa_nil)))))))))))))))))))), ?_⟩
    have few := okC.few
    have pos := okC.pos
    refine ⟨_, rfl, _, rfl, _, rfl, S, D, 3, rfl, divW_of (by decide) (by decide), d, fun H1 v0 _ _ g1 => ⟨rfl, ?_⟩⟩
    refine ⟨vc, vw, _, b, C, W, rfl, dp_keep (Go.keepT d g1) _ _ (dChn_noL _ _) hC, okC, hw.keep (Go.keepT d g1), nd, wl, hW, fun H2 v2 s2 own => ?_⟩
    obtain ⟨p, pp, pL, ww, wr, pace, us, pots, rfl, hp, hpp, lp, zp, pL1, hL2, hus, pl, pok, w1', w2'⟩ := own
    have g2 := g1.trans (Go.same g1.1 s2)
    have pL0 : H pL = none := g1.free d pL1
    have pt2 : PtI K H H2 pL 40 (· = C.length) := ⟨pL0, us, pots, hL2, hus, pl, pok⟩
    have pc2 : PcI K H2 pp 16 := ⟨pace, hpp, lp, zp⟩
    have ul := dpA_len hus
    rw [List.length_map] at ul
    refine ⟨_, _, rfl, hp, rfl, _, _, rfl, _, _, rfl, _, _, rfl, _, _, rfl, rfl, ?_⟩
    refine ⟨_, rfl, S, D, 12, rfl, divW_of (by decide) (by decide), g2.1, fun H3 turn _ _ g3 => ?_⟩
    refine ⟨_, rfl, _, rfl, _, _, rfl, .inl ⟨_, SqL.of (g3.2 _ _ hL2 (d.free pL0).1), rfl⟩, S, D, _, rfl, divW_of (by omega) (by omega), g3.1, fun H4 sv s0 sl g4 => ?_⟩
    obtain ⟨sN, rfl⟩ : ∃ k : Nat, sv = (k : Int) := ⟨sv.toNat, by omega⟩
    have snC : sN < C.length := by omega
    refine ⟨_, rfl, S, D, 9, rfl, divW_of (by decide) (by decide), g4.1, fun H5 a a0 a1 g5 => ⟨_, _, rfl, rfl, _, rfl, S, D, 7, rfl, divW_of (by decide) (by decide), g5.1, fun H6 c c0 c1 g6 => ⟨_, _, rfl, rfl, ?_⟩⟩⟩
    have g26 := g3.trans (g4.trans (g5.trans g6))
    have sz0 : Sz 10 (a - 4, 1 + c) := ⟨by show (a - 4).natAbs < 2 ^ 10; omega, by show (1 + c).natAbs < 2 ^ 10; omega⟩
    have nz0 : 1 + c ≠ 0 := by omega
    refine ⟨_, _, rfl, nz0, sz_up sz0 (by decide), fun pm hpm => ?_⟩
    have g67 := g26.trans (Go.new (o := tupF (fr (a - 4) (1 + c))) g26.1 hpm)
    have hm7 : PcI K (upd H6 pm (tupF (fr (a - 4) (1 + c)))) pm 140 := ⟨_, sq_new, fr_low nz0, sz_up (fr_sz sz0) (by decide)⟩
    generalize upd H6 pm (tupF (fr (a - 4) (1 + c))) = H7 at g67 hm7
    have pt7 := pt2.go d g2 g67
    have pc7 := pc2.keep (Go.keepT g2.1 g67)
    have w17 := w1'.go g2.1 g67
    have w27 := w2'.go g2.1 g67
    have g7 := g2.trans g67
    refine ⟨fun σ' H' => ∃ (pm : Addr), σ' = [some (.ref D), some vc, some vw, some (.str z), some (.ref pp), some (.ref pL), some ww, some wr, some (.int turn), some (.int (sN : Int)), some (.ref pm), none, none] ∧ Go S D H7 H' ∧ PcI K H' pm 140, ?_, ?_⟩
    · refine ⟨_, rfl, S, D, 9, rfl, by decide, by decide, g7.1, fun H8 bb g8 => ⟨_, rfl, ite2 (fun _ => ?_) (fun _ => ⟨pm, rfl, g8, hm7.keep (Go.keepT g7.1 g8)⟩)⟩⟩
      exact ⟨_, _, rfl, rfl, ⟨by decide, by decide, by decide⟩, _, _, rfl, rfl, z2, fun pn hpn => ⟨pn, rfl, g8.trans (Go.new g8.1 hpn), _, SqT.of upd_same, lowMore, szMore⟩⟩
    rintro σ' H8 ⟨pm, rfl, g78, pm8⟩
    have pt8 := pt7.go d g7 g78
    have pc8 := pc7.keep (Go.keepT g7.1 g78)
    have w18 := w17.go g7.1 g78
    have w28 := w27.go g7.1 g78
    have g8 := g7.trans g78
    refine ⟨fun σ' H' => ∃ (pL : Addr) (y11 y12 : Option V), σ' = [some (.ref D), some vc, some vw, some (.str z), some (.ref pp), some (.ref pL), some ww, some wr, some (.int turn), some (.int (sN : Int)), some (.ref pm), y11, y12] ∧ Go S D H8 H' ∧ PtI K H H' pL 200 (· = C.length), ?_, ?_⟩
    · refine ⟨_, rfl, rfl, _, rfl, ite2 (fun _ => ?_) (fun _ => ⟨pL, _, _, rfl, Go.refl g8.1, pt8.up (by decide) fun _ h => h⟩)⟩
      obtain ⟨pL0', us, pots, hL8, hus8, pl8, pok8⟩ := pt8
      obtain ⟨more, hm8, lm, zm⟩ := pm8
      have LD := (d.free pL0').1
      have ul8 := dpA_len hus8
      rw [List.length_map] at ul8
      refine ⟨Nat.zero_le _, fun Lf hLf => ?_⟩
      have s9 := same_new (o := .lst []) hLf
      have hF9 := upd_same (H := H8) (a := Lf) (o := .lst [])
      have LfH : H Lf = none := g8.free d hLf
      generalize upd H8 Lf (.lst []) = H9 at s9 hF9
      refine ⟨_, rfl, pL, rfl, ⟨_, SqL.of (s9 _ _ hL8)⟩, for_list (K := K) (a := pL) (xs := us) (fun i σ H' => ∃ (y12 : Option V) (us' : List V) (pots' : List (Option F2)), σ = [some (.ref D), some vc, some vw, some (.str z), some (.ref pp), some (.ref pL), some ww, some wr, some (.int turn), some (.int (sN : Int)), some (.ref pm), some (.ref Lf), y12] ∧ Same H8 H' ∧ H' Lf = some (.lst us') ∧ DpAll K H' us' (pots'.map dO) ∧ pots'.length = i ∧ ∀ f, some f ∈ pots' → Low f ∧ Sz 200 f) ⟨_, [], [], rfl, s9, hF9, .nil, rfl, fun _ h => absurd h List.not_mem_nil⟩ (fun i σ H' _ ⟨_, _, _, _, s, _⟩ => SqL.of (s _ _ hL8)) ?_ ?_⟩
      · rintro i x σ H10 hi ⟨y12, us', pots', rfl, s10, hF10, hus10, pl10, pok10⟩
        obtain ⟨o, ho, hx⟩ := o_at (dpA_same s10 _ _ hus8) hi
        have il := (List.getElem?_eq_some_iff.mp hi).1
        have ul10 := dpA_len hus10
        rw [List.length_map] at ul10
        cases o with
        | none =>
          obtain rfl := dp_non hx
          refine ⟨_, rfl, rfl, _, rfl, ite2 (fun _ => ?_) (fun h => absurd rfl h)⟩
          refine ⟨_, rfl, .inl ⟨rfl, _, SqL.of hF10⟩, Lf, us', .non, rfl, rfl, hF10, line6 (by omega), ?_⟩
          exact ⟨_, us' ++ [.non], pots' ++ [none], rfl, same_mut s10 hLf, upd_same, pushO hF10 hus10 hx, by rw [List.length_append, pl10]; rfl, ok_snoc pok10 fun f e => nomatch e⟩
        | some f =>
          obtain ⟨px, rfl, hpx⟩ := f2_at hx
          obtain ⟨lf, zf⟩ := pok8 f (List.mem_of_getElem? ho)
          refine ⟨_, rfl, rfl, _, rfl, ite2 (fun h => (nomatch (show false = true from h))) (fun _ => ?_)⟩
          refine ⟨_, rfl, .inl ⟨rfl, _, SqL.of hF10⟩, _, rfl, _, rfl, px, pm, f, more, rfl, hpx, same_t s10 hm8, sz_up zf (by decide), sz_up zm (by decide), add2_ne lf lm, fun r hr => ?_⟩
          have s11 := same_new (o := tupF (frp (add2 f more))) hr
          have hF11 := s11 _ _ hF10
          have h11 := sq_new (K := K) (H := H10) (p := r) (f := frp (add2 f more))
          have hus11 := dpA_same s11 _ _ hus10
          have lo : Low (frp (add2 f more)) := low_frp (add2_ne lf lm)
          have zo : Sz 200 (frp (add2 f more)) := sz_up (fr_sz (add2_sz zf zm)) (by decide)
          generalize upd H10 r (tupF (frp (add2 f more))) = H11 at s11 hF11 h11 hus11
          refine ⟨Lf, us', .ref r, rfl, rfl, hF11, line6 (by omega), ?_⟩
          exact ⟨_, us' ++ [.ref r], pots' ++ [some (frp (add2 f more))], rfl, same_mut (s10.trans s11) hLf, upd_same, pushO hF11 hus11 (dp_F h11), by rw [List.length_append, pl10]; rfl, ok_snoc pok10 fun f' e => by cases e; exact ⟨lo, zo⟩⟩
      · rintro σ H10 ⟨y12, us', pots', rfl, s10, hF10, hus10, pl10, pok10⟩
        exact ⟨_, rfl, Lf, _, _, rfl, Go.same g8.1 s10, LfH, us', pots', hF10, hus10, by omega, pok10⟩
    rintro σ' H9 ⟨pL, y11, y12, rfl, g89, pt9⟩
    have pc9 := pc8.keep (Go.keepT g8.1 g89)
    have pm9 := pm8.keep (Go.keepT g8.1 g89)
    have w19 := w18.go g8.1 g89
    have w29 := w28.go g8.1 g89
    have g9 := g8.trans g89
    refine ⟨InvP K S D H vc vw z turn sN pm 16 400 60 (· = C.length), ?_, ?_⟩
    · obtain ⟨pL0', us, pots, hL9, hus9, pl9, pok9⟩ := id pt9
      have ul9 := dpA_len hus9
      rw [List.length_map] at ul9
      have keep : InvP K S D H vc vw z turn sN pm 16 400 60 (· = C.length) [some (.ref D), some vc, some vw, some (.str z), some (.ref pp), some (.ref pL), some ww, some wr, some (.int turn), some (.int (sN : Int)), some (.ref pm), y11, y12] H9 := ⟨pp, pL, ww, wr, _, _, rfl, g9, pt9.up (by decide) fun _ h => h, pc9, pm9, w19, w29⟩
      refine ⟨_, rfl, rfl, _, rfl, ite2 (fun _ => ?_) (fun _ => keep)⟩
      have six : sN < us.length := by omega
      obtain ⟨x, hx⟩ : ∃ x, us[sN]? = some x := ⟨_, List.getElem?_eq_getElem six⟩
      obtain ⟨o, ho, dx⟩ := o_at hus9 hx
      refine ⟨_, rfl, _, rfl, pL, _, _, _, rfl, rfl, SqL.of hL9, atI_nat hx, rfl, _, rfl, ?_⟩
      cases o with
      | none =>
        obtain rfl := dp_non dx
        exact ite2 (fun h => (nomatch (show false = true from h))) (fun _ => keep)
      | some f =>
        obtain ⟨px, rfl, hpx⟩ := f2_at dx
        obtain ⟨lf, zf⟩ := pok9 f (List.mem_of_getElem? ho)
        obtain ⟨more, hm9, lm, zm⟩ := id pm9
        refine ite2 (fun _ => ?_) (fun h => absurd rfl h)
        refine ⟨_, rfl, _, rfl, pL, _, _, _, rfl, rfl, SqL.of hL9, atI_nat hx, _, rfl, px, pm, f, more, rfl, hpx, hm9, sz_up zf (by decide), sz_up zm (by decide), add2_ne lf lm, fun r hr => ?_⟩
        have s11 := same_new (o := tupF (frp (add2 f more))) hr
        have hF11 := s11 _ _ hL9
        have h11 := sq_new (K := K) (H := H9) (p := r) (f := frp (add2 f more))
        have hus11 := dpA_same s11 _ _ hus9
        have lo : Low (frp (add2 f more)) := low_frp (add2_ne lf lm)
        have zo : Sz 400 (frp (add2 f more)) := sz_up (fr_sz (add2_sz zf zm)) (by decide)
        generalize upd H9 r (tupF (frp (add2 f more))) = H11 at s11 hF11 h11 hus11
        refine ⟨_, rfl, _, rfl, pL, us, _, sN, rfl, rfl, hF11, Evl.ixN_nat six, ?_⟩
        have kT := (KeepT.of_same s11).trans (keepT_nt (o := .lst (us.set sN (.ref r))) (nt_lst _) hF11)
        exact ⟨pp, pL, ww, wr, _, _, rfl, goU pL0' d (g9.trans (Go.same g9.1 s11)), ⟨pL0', us.set sN (.ref r), pots.set sN (some (frp (add2 f more))), upd_same, setO sN hF11 hus11 (dp_F h11), by show (pots.set sN _).length = _; rw [List.length_set]; exact pl9, ok_set (fun f' h => ⟨(pok9 f' h).1, sz_up (pok9 f' h).2 (by decide)⟩) fun f' e => by cases e; exact ⟨lo, zo⟩⟩, pc9.keep kT, pm9.keep kT, w19.keep kT, w29.keep kT⟩
    rintro σ' H10 ⟨pp, pL, ww, wr, y11, y12, rfl, g10, pt10, pc10, pm10, w110, w210⟩
    refine ⟨InvP K S D H vc vw z turn sN pm 16 400 60 (· = C.length), ?_, ?_⟩
    · refine ⟨_, rfl, rfl, _, rfl, ite2 (fun _ => ?_) (fun _ => ⟨pp, pL, ww, wr, _, _, rfl, g10, pt10, pc10, pm10, w110, w210⟩)⟩
      obtain ⟨pL0', us, pots, hL10, hus10, pl10, pok10⟩ := pt10
      have ul10 := dpA_len hus10
      rw [List.length_map] at ul10
      refine ⟨_, rfl, _, rfl, pL, us, _, sN, rfl, rfl, hL10, Evl.ixN_nat (by omega), ?_⟩
      have kT := keepT_nt (o := .lst (us.set sN .non)) (nt_lst _) hL10
      exact ⟨pp, pL, ww, wr, _, _, rfl, goU pL0' d g10, ⟨pL0', us.set sN .non, pots.set sN none, upd_same, setO sN hL10 hus10 .non, by show (pots.set sN _).length = _; rw [List.length_set]; exact pl10, ok_set pok10 fun f' e => nomatch e⟩, pc10.keep kT, pm10.keep kT, w110.keep kT, w210.keep kT⟩
    rintro σ' H11 ⟨pp, pL, ww, wr, y11, y12, rfl, g11, pt11, pc11, pm11, w111, w211⟩
    refine ⟨InvP K S D H vc vw z turn sN pm 16 400 60 (· ≤ 60), ?_, ?_⟩
    · refine ⟨_, rfl, rfl, _, rfl, ite2 (fun _ => ?_) (fun _ => ⟨pp, pL, ww, wr, _, _, rfl, g11, pt11.up (Nat.le_refl _) fun n h => by omega, pc11, pm11, w111, w211⟩)⟩
      obtain ⟨pL0', us, pots, hL11, hus11, pl11, pok11⟩ := pt11
      have ul11 := dpA_len hus11
      rw [List.length_map] at ul11
      refine ⟨_, rfl, _, rfl, noP ⟨_, rfl, _, rfl, pL, us, rfl, SqL.of hL11, fun p1 hp1 => ?_⟩⟩
      obtain ⟨cs, hcs, cl, cok⟩ := cutO (lo := none) (hi := some (-1)) hus11 pok11
      have cl2 := dpA_len hcs
      rw [List.length_map] at cl2
      generalize cutV us none (some (-1)) = cv at hcs cl2 ⊢
      have a1 := same_new (o := .lst cv) hp1
      have e1 := upd_same (H := H11) (a := p1) (o := .lst cv)
      generalize upd H11 p1 (.lst cv) = Ha at a1 e1
      refine ⟨_, rfl, z2, fun t1 ht1 => ⟨z1, fun l1 hl1 => ?_⟩⟩
      have a2 := a1.trans (same_new (o := .tup [.int 0, .int 1]) ht1)
      have b2 := same_new (o := .tup [.int 0, .int 1]) ht1
      have e2 := upd_same (H := Ha) (a := t1) (o := .tup [.int 0, .int 1])
      generalize upd Ha t1 (.tup [.int 0, .int 1]) = Hb at a2 b2 e2 hl1
      have e1 := b2 _ _ e1
      have a3 := a2.trans (same_new (o := .lst [.ref t1]) hl1)
      have b3 := same_new (o := .lst [.ref t1]) hl1
      have e3 := upd_same (H := Hb) (a := l1) (o := .lst [.ref t1])
      generalize upd Hb l1 (.lst [.ref t1]) = Hc at a3 b3 e3
      have e1 := b3 _ _ e1
      have e2 := b3 _ _ e2
      refine ⟨pL, l1, us, _, rfl, rfl, a3 _ _ hL11, e3, line5 (by show us.length + 1 ≤ _; omega), fun p3 hp3 => ?_⟩
      have a4 := a3.trans (same_new (o := .lst (us ++ [.ref t1])) hp3)
      have b4 := same_new (o := .lst (us ++ [.ref t1])) hp3
      have e4 := upd_same (H := Hc) (a := p3) (o := .lst (us ++ [.ref t1]))
      generalize upd Hc p3 (.lst (us ++ [.ref t1])) = Hd at a4 b4 e4
      have e1 := b4 _ _ e1
      have e2 := b4 _ _ e2
      refine ⟨_, rfl, z1, fun l2 hl2 => ?_⟩
      have a5 := a4.trans (same_new (o := .lst [.non]) hl2)
      have b5 := same_new (o := .lst [.non]) hl2
      have e5 := upd_same (H := Hd) (a := l2) (o := .lst [.non])
      generalize upd Hd l2 (.lst [.non]) = He at a5 b5 e5
      have e1 := b5 _ _ e1
      have e2 := b5 _ _ e2
      have e4 := b5 _ _ e4
      refine ⟨pL, l2, us, _, rfl, rfl, a5 _ _ hL11, e5, line5 (by show us.length + 1 ≤ _; omega), fun p4 hp4 => ⟨z3, fun p5 hp5 => ?_⟩⟩
      have a6 := a5.trans (same_new (o := .lst (us ++ [.non])) hp4)
      have b6 := same_new (o := .lst (us ++ [.non])) hp4
      have e6 := upd_same (H := He) (a := p4) (o := .lst (us ++ [.non]))
      generalize upd He p4 (.lst (us ++ [.non])) = Hf at a6 b6 e6 hp5
      have e1 := b6 _ _ e1
      have e2 := b6 _ _ e2
      have e4 := b6 _ _ e4
      have a7 := a6.trans (same_new (o := .lst [.ref p1, .ref p3, .ref p4]) hp5)
      have b7 := same_new (o := .lst [.ref p1, .ref p3, .ref p4]) hp5
      have e7 := upd_same (H := Hf) (a := p5) (o := .lst [.ref p1, .ref p3, .ref p4])
      generalize upd Hf p5 (.lst [.ref p1, .ref p3, .ref p4]) = Hg at a7 b7 e7
      have e1 := b7 _ _ e1
      have e2 := b7 _ _ e2
      have e4 := b7 _ _ e4
      have e6 := b7 _ _ e6
      have fr : ∀ {Hx : Hp} {p : Addr}, Same H11 Hx → Hx p = none → H p = none := fun s h => (g11.trans (Go.same g11.1 s)).free d h
      have f1 := g11.free d hp1
      have f3 := fr a3 hp3
      have f4 := fr a5 hp4
      have f5 := fr a6 hp5
      have gg := Go.same g11.1 a7
      have kL : ∀ {H'' : Hp}, Go S D Hg H'' → KeepT H11 H'' := fun g => Go.keepT g11.1 (gg.trans g)
      refine ⟨S, D, .ref p5, _, rfl, gg.1, fun H' g' => .inr (.inl ⟨p5, rfl, SqL.of (g'.2 _ _ e7 (d.free f5).1)⟩), by show 0 < 3; decide, by show 3 ≤ 100000; decide, fun H'' x hx gx => ?_⟩
      have k := kL gx
      have kk : ∀ (p : Addr) (us' : List V) (pots' : List (Option F2)), H p = none → Hg p = some (.lst us') → DpAll K Hg us' (pots'.map dO) → pots'.length ≤ 60 → (∀ f, some f ∈ pots' → Low f ∧ Sz 400 f) → InvP K S D H vc vw z turn sN pm 16 400 60 (· ≤ 60) [some (.ref D), some vc, some vw, some (.str z), some (.ref pp), some (.ref p), some ww, some wr, some (.int turn), some (.int (sN : Int)), some (.ref pm), y11, y12] H'' := fun p us' pots' h0 hp hd hl ho =>
        ⟨pp, p, ww, wr, _, _, rfl, g11.trans (gg.trans gx), ⟨h0, us', pots', gx.2 _ _ hp (d.free h0).1, dpA_keep (Go.keepT gg.1 gx) _ _ (noLs_O _) hd, hl, ho⟩, pc11.keep k, pm11.keep k, w111.keep k, w211.keep k⟩
      have h01 : Dp K Hg (.ref t1) (dO (some (0, 1))) := dp_F (SqT.of e2)
      simp only [List.mem_cons, List.not_mem_nil, or_false] at hx
      rcases hx with rfl | rfl | rfl
      · exact kk p1 cv cs f1 e1 (dpA_same a7 _ _ hcs) (by omega) cok
      · exact kk p3 _ (pots ++ [some (0, 1)]) f3 e4 (by rw [List.map_append]; exact dpA_snoc (dpA_same a7 _ _ hus11) h01) (by rw [List.length_append, List.length_singleton]; omega) (ok_snoc pok11 fun f e => by cases e; exact ⟨low0, sz_up sz0' (by decide)⟩)
      · exact kk p4 _ (pots ++ [none]) f4 e6 (by rw [List.map_append]; exact dpA_snoc (dpA_same a7 _ _ hus11) .non) (by rw [List.length_append, List.length_singleton]; omega) (ok_snoc pok11 fun f e => nomatch e)
    rintro σ' H12 ⟨pp, pL, ww, wr, y11, y12, rfl, g12, pt12, pc12, pm12, w112, w212⟩
    refine ⟨InvP K S D H vc vw z turn sN pm 200 400 60 (· ≤ 60), ?_, ?_⟩
    · refine ⟨_, rfl, rfl, _, rfl, ite2 (fun _ => ?_) (fun _ => ⟨pp, pL, ww, wr, _, _, rfl, g12, pt12, pc12.up (by decide), pm12, w112, w212⟩)⟩
      obtain ⟨pace, hp12, lp, zp⟩ := pc12
      obtain ⟨more, hm12, lm, zm⟩ := id pm12
      refine ⟨_, rfl, _, rfl, pp, pm, pace, more, rfl, hp12, hm12, sz_up zp (by decide), sz_up zm (by decide), add2_ne lp lm, fun r hr => ?_⟩
      have gn := Go.new (o := tupF (frp (add2 pace more))) g12.1 hr
      have kT := Go.keepT g12.1 gn
      exact ⟨r, pL, ww, wr, _, _, rfl, g12.trans gn, pt12.go d g12 gn, ⟨_, sq_new, low_frp (add2_ne lp lm), sz_up (fr_sz (add2_sz zp zm)) (by decide)⟩, pm12.keep kT, w112.keep kT, w212.keep kT⟩
    rintro σ' H13 ⟨pp, pL, ww, wr, y11, y12, rfl, g13, pt13, pc13, pm13, w113, w213⟩
    refine ⟨InvP K S D H vc vw z turn sN pm 200 400 200 (· ≤ 60), ?_, ?_⟩
    · refine ⟨_, rfl, rfl, _, rfl, ite2 (fun _ => ?_) (fun _ => ⟨pp, pL, ww, wr, _, _, rfl, g13, pt13, pc13, pm13, w113.up (by decide), w213.up (by decide)⟩)⟩
      refine ⟨_, rfl, _, rfl, _, rfl, S, D, vc, z, b, C, rfl, g13.1, dp_keep (Go.keepT d g13) _ _ (dChn_noL _ _) hC, okC, fun H14 v gn ra => ?_⟩
      obtain ⟨pr, ww', wr', rfl, hpr, x1, x2⟩ := ra
      have kT := Go.keepT g13.1 gn
      exact ⟨_, _, rfl, hpr, rfl, _, _, rfl, _, _, rfl, rfl, pp, pL, ww', wr', _, _, rfl, g13.trans gn, pt13.go d g13 gn, pc13.keep kT, pm13.keep kT, x1.up (by decide), x2.up (by decide)⟩
    rintro σ' H14 ⟨pp, pL, ww, wr, y11, y12, rfl, g14, pt14, pc14, pm14, w114, w214⟩
    refine ⟨InvP K S D H vc vw z turn sN pm 200 400 500 (· ≤ 60), ?_, ?_⟩
    · obtain ⟨pc, pq, xs, rfl, hpc, hpq, hA⟩ := chn_at hC
      have hpc14 := sqt_keep (Go.keepT d g14) hpc
      refine ⟨_, rfl, rfl, _, rfl, ite2 (fun _ => ite2 (fun _ => ?_) (fun h => absurd rfl h)) (fun _ => ⟨_, rfl, rfl, _, rfl, ite2 (fun _ => ?_) (fun _ => ⟨pp, pL, ww, wr, _, _, rfl, g14, pt14, pc14, pm14, w114.up (by decide), w214.up (by decide)⟩)⟩)⟩
      all_goals
        refine ⟨_, rfl, _, rfl, pc, _, _, _, rfl, rfl, hpc14, atI_nat (j := 1) rfl, _, rfl, _, rfl, S, D, b, ww, wr, rfl, g14.1, okC.b2, okC.b6, w114, w214, fun H15 v gn ra => ?_⟩
        obtain ⟨pr, ww', wr', rfl, hpr, x1, x2⟩ := ra
        have kT := Go.keepT g14.1 gn
        exact ⟨_, _, rfl, hpr, rfl, _, _, rfl, _, _, rfl, rfl, pp, pL, ww', wr', _, _, rfl, g14.trans gn, pt14.go d g14 gn, pc14.keep kT, pm14.keep kT, x1, x2⟩
    rintro σ' H15 ⟨pp, pL, ww, wr, y11, y12, rfl, g15, pt15, pc15, pm15, w115, w215⟩
    refine ⟨InvP K S D H vc vw z turn sN pm 200 400 500 (· ≤ 60), ?_, ?_⟩
    · refine ⟨_, rfl, rfl, _, rfl, ite2 (fun _ => ?_) (fun _ => ⟨pp, pL, ww, wr, _, _, rfl, g15, pt15, pc15, pm15, w115, w215⟩)⟩
      obtain ⟨pL0', us, pots, hL15, hus15, pl15, pok15⟩ := pt15
      have ul15 := dpA_len hus15
      rw [List.length_map] at ul15
      have LD := (d.free pL0').1
      refine ⟨_, rfl, pL, rfl, ⟨_, SqL.of hL15⟩, fun R hR => lc_list (K := K) (a := pL) (xs := us) (fun i H' => Go S D H15 H' ∧ ∃ (us' : List V) (pots' : List (Option F2)), H' R = some (.lst us') ∧ DpAll K H' us' (pots'.map dO) ∧ pots'.length = i ∧ ∀ f, some f ∈ pots' → Low f ∧ Sz 400 f) ⟨Go.new g15.1 hR, [], [], upd_same, .nil, rfl, fun _ h => absurd h List.not_mem_nil⟩ (fun i H' _ e => SqL.of (e.1.2 _ _ hL15 LD)) ?_ ?_⟩
      · rintro i x H16 hi ⟨g16, us', pots', hR16, hus16, pl16, pok16⟩
        have RD := (g15.1.free hR).1
        obtain ⟨o, ho, dx⟩ := o_at (dpA_keep (Go.keepT g15.1 g16) _ _ (noLs_O pots) hus15) hi
        have il := (List.getElem?_eq_some_iff.mp hi).1
        have ul16 := dpA_len hus16
        rw [List.length_map] at ul16
        refine ⟨rfl, _, rfl, _, rfl, z2, fun t ht => ⟨z2, fun l hl => ?_⟩⟩
        have b1 := same_new (o := .tup [.int 7, .int 2]) ht
        have e1 := upd_same (H := H16) (a := t) (o := .tup [.int 7, .int 2])
        generalize upd H16 t (.tup [.int 7, .int 2]) = H17 at b1 e1 hl
        have b2 := b1.trans (same_new (o := .lst [x, .ref t]) hl)
        have e1 := same_new (o := .lst [x, .ref t]) hl _ _ e1
        have e2 := upd_same (H := H17) (a := l) (o := .lst [x, .ref t])
        generalize upd H17 l (.lst [x, .ref t]) = H18 at b2 e1 e2
        have g18 := Go.same g16.1 b2
        have lD := ((Go.same g16.1 b1).1.free hl).1
        refine ⟨S, D, .ref l, _, rfl, g18.1, fun H' g' => .inr (.inl ⟨l, rfl, SqL.of (g'.2 _ _ e2 lD)⟩), by show 0 < 2; decide, by show 2 ≤ 100000; decide, fun H19 y hy g19 => ?_⟩
        have g1619 := g18.trans g19
        have k19 := Go.keepT g16.1 g1619
        have hR19 := g1619.2 _ _ hR16 RD
        obtain ⟨o', dy, ok'⟩ : ∃ o', Dp K H19 y (dO o') ∧ ∀ f, o' = some f → Low f ∧ Sz 400 f := by
          simp only [List.mem_cons, List.not_mem_nil, or_false] at hy
          rcases hy with rfl | rfl
          · exact ⟨o, dp_keep k19 _ _ (noL_O o) dx, fun f e => by subst e; exact pok15 f (List.mem_of_getElem? ho)⟩
          · exact ⟨some (7, 2), dp_keep (Go.keepT g18.1 g19) _ _ rfl (dp_F (SqT.of e1)), fun f e => by cases e; exact ⟨low72, sz_up (j := 3) ⟨by decide, by decide⟩ (by decide)⟩⟩
        refine ⟨us', hR19, line6 (by omega), goU hR g15.1 (g16.trans g1619), us' ++ [y], pots' ++ [o'], upd_same, pushO hR19 (dpA_keep k19 _ _ (noLs_O _) hus16) dy, by rw [List.length_append, pl16]; rfl, ok_snoc pok16 ok'⟩
      · rintro H16 ⟨g16, us', pots', hR16, hus16, pl16, pok16⟩
        have k := Go.keepT g15.1 g16
        exact ⟨pp, R, ww, wr, _, _, rfl, g15.trans g16, ⟨g15.free d hR, us', pots', hR16, hus16, by omega, pok16⟩, pc15.keep k, pm15.keep k, w115.keep k, w215.keep k⟩
    rintro σ' H16 ⟨pp, pL, ww, wr, y11, y12, rfl, g16, pt16, pc16, pm16, w116, w216⟩
    obtain ⟨pL0', us, pots, hL16, hus16, pl16, pok16⟩ := pt16
    obtain ⟨pace', hp16, lp', zp'⟩ := pc16
    obtain ⟨way, hway, wl1⟩ := w116
    obtain ⟨ring, hring, wl2⟩ := w216
    refine ⟨_, rfl, _, rfl, pL, _, rfl, .inl ⟨SqL.of hL16, fun pt hpt => ⟨_, rfl, _, rfl, z4, fun pr hpr => ?_⟩⟩⟩
    have s1 := same_new (o := .tup us) hpt
    have ht := upd_same (H := H16) (a := pt) (o := .tup us)
    generalize upd H16 pt (.tup us) = H17 at s1 ht hpr
    have s2' := same_new (o := .tup [.ref pp, .ref pt, ww, wr]) hpr
    have s3 := s1.trans s2'
    exact q _ _ pace' pots way ring (g16.trans (Go.same g16.1 s3)) (.tup (SqT.of upd_same) (.cons (dp_F (same_t s3 hp16)) (.cons (.tup (SqT.of (s2' _ _ ht)) (dpA_same s3 _ _ hus16)) (.cons (dp_same s3 _ _ hway) (.cons (dp_same s3 _ _ hring) .nil))))) ⟨lp', sz_up zp' (by decide), fun f hf => ⟨(pok16 f hf).1, sz_up (pok16 f hf).2 (by decide)⟩, by omega, by omega, by omega⟩
end
end Mt
namespace Mt
open PySem PySem.Spec PyProof.Rows L2
theorem pool_nd : POOL.Nodup := by decide +kernel
theorem nodup_move {α : Type} {l m : List α} {i : Nat} {z : α} (h : (l ++ m).Nodup) (e : l[i]? = some z) : (l.eraseIdx i ++ (m ++ [z])).Nodup := by
  have p : (l.eraseIdx i ++ (m ++ [z])).Perm (l ++ m) := by
    have p1 : (l.eraseIdx i ++ (m ++ [z])).Perm (z :: (l.eraseIdx i ++ m)) := by
      rw [← List.append_assoc]
      exact List.perm_append_singleton z _
    exact p1.trans ((erase_perm e).append_right m)
  exact p.nodup_iff.mpr h
theorem eqv_bl (a b : Bool) : decide (V.bl a = V.bl b) = (a == b) := by cases a <;> cases b <;> rfl
def spIsBool : Sp := fun vs H Q _ => ∃ a b : Bool, vs = [.bl a, .bl b] ∧ Q (.bl (a == b)) H
def PapAt (K : PySem.W.Frag) (H : Hp) (v : V) : Prop := ∃ (pace : F2) (pots : List (Option F2)) (way ring : List (List Int)), Dp K H v (dPap pace pots way ring) ∧ PapOk pace pots way ring
theorem dPap_noL (pace : F2) (pots : List (Option F2)) (way ring : List (List Int)) : noL (dPap pace pots way ring) = true := by
  show (noL (dF pace) && (noLs (pots.map dO) && (noL (dWs way) && (noL (dWs ring) && true)))) = true
  rw [noLs_O, dWs_noL, dWs_noL]
  rfl
theorem PapAt.keep {K : PySem.W.Frag} {H H' : Hp} {v : V} (k : KeepT H H') (h : PapAt K H v) : PapAt K H' v := let ⟨a, b, c, d, e, f⟩ := h; ⟨a, b, c, d, dp_keep k _ _ (dPap_noL _ _ _ _) e, f⟩
theorem RksAt.keep {K : PySem.W.Frag} {H H' : Hp} {v : V} (k : KeepT H H') (h : RksAt K H v) : RksAt K H' v := let ⟨a, b, c, d, e⟩ := h; ⟨a, b, c, sqt_keep k d, e⟩
theorem RingAt.keep {K : PySem.W.Frag} {H H' : Hp} {v : V} {n : Nat} (k : KeepT H H') (h : RingAt K H v n) : RingAt K H' v n := let ⟨p, x, y, a, b, c, d⟩ := h; ⟨p, x, y, a, sqt_keep k b, c.keep k, d.keep k⟩
/-- a list of so many, each as told -/
def LsI (R : Hp → V → Prop) (H : Hp) (L : Addr) (n : Nat) : Prop := ∃ us : List V, H L = some (.lst us) ∧ us.length = n ∧ ∀ x ∈ us, R H x
theorem LsI.same {R : Hp → V → Prop} (hk : ∀ (H H' : Hp) (v : V), KeepT H H' → R H v → R H' v) {H H' : Hp} {L : Addr} {n : Nat} (s : Same H H') (h : LsI R H L n) : LsI R H' L n := let ⟨us, a, b, c⟩ := h; ⟨us, s _ _ a, b, fun x hx => hk _ _ _ (KeepT.of_same s) (c x hx)⟩
theorem LsI.go {R : Hp → V → Prop} (hk : ∀ (H H' : Hp) (v : V), KeepT H H' → R H v → R H' v) {S D : Addr} {H H' : Hp} {L : Addr} {n : Nat} (d : DrawAt S D H) (g : Go S D H H') (ne : L ≠ D) (h : LsI R H L n) : LsI R H' L n := let ⟨us, a, b, c⟩ := h; ⟨us, g.2 _ _ a ne, b, fun x hx => hk _ _ _ (Go.keepT d g) (c x hx)⟩
theorem LsI.push {R : Hp → V → Prop} (hk : ∀ (H H' : Hp) (v : V), KeepT H H' → R H v → R H' v) {H : Hp} {L : Addr} {us : List V} {x : V} (hL : H L = some (.lst us)) (h : ∀ y ∈ us, R H y) (hx : R H x) : LsI R (upd H L (.lst (us ++ [x]))) L (us.length + 1) := by
  have k := keepT_nt (o := .lst (us ++ [x])) (nt_lst _) hL
  refine ⟨us ++ [x], upd_same, by rw [List.length_append]; rfl, fun y hy => hk _ _ _ k ?_⟩
  rcases List.mem_append.mp hy with m | m
  · exact h y m
  · rw [List.mem_singleton.mp m]
    exact hx
section
variable {P : Program} {w : World} {K : PySem.W.Frag} {mg : Str → Option Value} {base : Heap}
theorem ok__law_is_bool (T : Txt K mg) {f : Addr} {fd : FuncData} (F : FnP K "_law_is_bool" s__law_is_bool f fd) : FnOk P w K mg base CX0 1 f fd ["told", "due"] spIsBool := by
  refine F.ok sc__law_is_bool (fun vs H Q E h => ?_) (fun cdv A outer s H vs Q E hr h => ?_)
  · obtain ⟨a, b, rfl, _⟩ := h
    rfl
  · obtain ⟨a, b, rfl, q⟩ := h
    refine ⟨_, PSs.nox (pss_one (ps_ret (pe_and (pe_callB call_isi (by rfl) T.b_isinstance (by decide +kernel) (pa_cons (pv 0) (pa_cons (pe_bltn (v := .ty "bool") (u := .type "bool") (by rfl) T.b_bool (by decide +kernel) rfl) pa_nil))) (pe_one (pe_cmpR op_eq (pv 0) (pv 1) (nomark _)))))), ?_⟩
    refine ⟨_, rfl, _, .ty "bool", .type "bool", .type "bool", true, rfl, .ty _, .base (.bl _), kit_ty (by decide +kernel), true, rfl, ite2 (fun _ => ?_) (fun h => absurd rfl h)⟩
    refine ⟨_, rfl, _, rfl, rfl, ?_⟩
    rw [eqv_bl]
    exact q
set_option maxHeartbeats 4000000 in
theorem ok_law (T : Txt K mg) (D_judge_ranks : Kept P w K mg base 2 "judge_ranks" ["chain", "mark", "ranks"] (spJRanksG K)) (D_judge_ring : Kept P w K mg base 3 "judge_ring" ["chain", "mark", "paper"] (spJRingG K)) (D_judge_rate : Kept P w K mg base 4 "judge_rate" ["chain", "worths", "paper"] (spJRate K)) (D__law_begin : Kept P w K mg base 1 "_law_begin" ["script"] (spBegin K)) (D__law_pop : Kept P w K mg base 2 "_law_pop" ["d", "row"] spPop) (D__law_pool : Kept P w K mg base 1 "_law_pool" [] spPool) (D__law_silent_chain : Kept P w K mg base 5 "_law_silent_chain" ["d", "marks", "most"] (spSChain K)) (D__law_drawn_worths : Kept P w K mg base 3 "_law_drawn_worths" ["d", "marks"] (spWorths K)) (D__law_rate_taken : Kept P w K mg base 3 "_law_rate_taken" ["chain", "worths", "paper"] (spTaken K)) (D__law_is_bool : Kept P w K mg base 1 "_law_is_bool" ["told", "due"] spIsBool) (D__law_ranks_taken : Kept P w K mg base 1 "_law_ranks_taken" ["chain", "mark", "ranks"] (spRkTaken K)) (D__law_ring_taken : Kept P w K mg base 3 "_law_ring_taken" ["chain", "mark", "way", "ring"] (spRgTaken K)) (D__law_some_ranks : Kept P w K mg base 3 "_law_some_ranks" ["d", "chain", "mark"] (spSomeRk K)) (D__law_some_ring : Kept P w K mg base 3 "_law_some_ring" ["d", "chain", "mark"] (spSomeRg K)) (D__law_bent_ring : Kept P w K mg base 3 "_law_bent_ring" ["d", "base", "way", "ring"] (spBentRg K)) (D__law_some_paper : Kept P w K mg base 4 "_law_some_paper" ["d", "chain", "worths", "mark"] (spSomeP K)) {f : Addr} {fd : FuncData} (F : FnP K "law" s_law f fd) : FnOk P w K mg base CX0 6 f fd ["script"] (spLaw K) := by
  refine F.ok sc_law (fun vs H Q E h => ?_) (fun cdv A outer s H vs Q E hr h => ?_)
  · obtain ⟨a, ns, rfl, _⟩ := h
    rfl
  · obtain ⟨a, ns, rfl, hS, hl, q⟩ := h
    refine ⟨_, PSs.nox (pss_cons (ps_set (i := 1) sc_law.nd rfl (Or.inr rfl) (pe_d D__law_begin (hr.mono (by decide)) (by rfl) (pa_cons (pv 0) pa_nil)))
      (pss_cons (ps_set (i := 2) sc_law.nd rfl (Or.inr rfl) (pe_d0 D__law_pool (hr.mono (by decide)) (by rfl)))
      (pss_cons (ps_set (i := 3) sc_law.nd rfl (Or.inr rfl) (pe_lc (own := [("k", 4)]) (g := (gName 4)) (tt := tYes) rfl sc_law.nd (pi_range1 (by rfl) T.b_range (pa_cons pe_int pa_nil)) (blkOk_by (N := N_law) (sc := defScope s_law) (by decide +kernel)) (fun _ _ _ _ _ => (pg_name (i := 4) sc_law.nd rfl (Or.inl rfl))) (fun _ _ _ _ _ => pts_nil) (fun _ _ _ _ _ => (pe_d D__law_pop (hr.mono (by decide)) (by rfl) (pa_cons (pv 1) (pa_cons (pv 2) pa_nil))))))
      (pss_cons (ps_set (i := 5) sc_law.nd rfl (Or.inr rfl) (pe_d D__law_silent_chain (hr.mono (by decide)) (by rfl) (pa_cons (pv 1) (pa_cons (pe_slice sl_list (pv 3) po_none (po_some pe_int)) (pa_cons pe_int pa_nil)))))
      (pss_cons (ps_set (i := 6) sc_law.nd rfl (Or.inr rfl) (pe_d D__law_drawn_worths (hr.mono (by decide)) (by rfl) (pa_cons (pv 1) (pa_cons (pv 3) pa_nil))))
      (pss_cons (ps_setLc (i := 7) (own := [("k", 4)]) (g := (gName 4)) (tt := tYes) rfl sc_law.nd rfl rfl (sw_true rfl rfl rfl (by decide +kernel)) (pi_range1 (by rfl) T.b_range (pa_cons pe_int pa_nil)) (blkOk_by (N := N_law) (sc := defScope s_law) (by decide +kernel)) (fun _ _ _ _ _ => (pg_name (i := 4) sc_law.nd rfl (Or.inl rfl))) (fun _ _ _ _ _ => pts_nil) (fun _ _ _ _ _ => (pe_d D__law_some_ranks (hr.mono (by decide)) (by rfl) (pa_cons (pv 1) (pa_cons (pv 5) (pa_cons (pe_ix (ixL (K := K) rfl) (pv 3) pe_int (fun _ _ => rfl)) pa_nil))))))
      (pss_cons (ps_set (i := 8) sc_law.nd rfl (Or.inl rfl) (pe_lst pa_nil))
      (pss_cons (ps_for PassesOwn.never rfl (pi_range1 (by rfl) T.b_range (pa_cons pe_int pa_nil)) (pg_name (i := 4) sc_law.nd rfl (Or.inl rfl)) (pss_cons (ps_asg (pe_d D__law_some_ring (hr.mono (by decide)) (by rfl) (pa_cons (pv 1) (pa_cons (pv 5) (pa_cons (pe_ix (ixL (K := K) rfl) (pv 3) pe_int (fun _ _ => rfl)) pa_nil)))) (pg_tup rfl (pgs_cons (pg_name (i := 9) sc_law.nd rfl (Or.inl rfl)) (pgs_cons (pg_name (i := 10) sc_law.nd rfl (Or.inl rfl)) pgs_nil))))
      (pss_one (ps_expr (pe_bm PySem.F.plainAttrs_list PySem.F.slot_list_append PySem.F.type_list_append mt_append (pv 8) (pa_cons (pe_d D__law_bent_ring (hr.mono (by decide)) (by rfl) (pa_cons (pv 1) (pa_cons (pe_ix ix_tup (pv 5) pe_int (fun _ _ => rfl)) (pa_cons (pv 9) (pa_cons (pv 10) pa_nil))))) pa_nil))))))
      (pss_cons (ps_setLc (i := 11) (own := [("k", 4)]) (g := (gName 4)) (tt := tYes) rfl sc_law.nd rfl rfl (sw_true rfl rfl rfl (by decide +kernel)) (pi_range1 (by rfl) T.b_range (pa_cons pe_int pa_nil)) (blkOk_by (N := N_law) (sc := defScope s_law) (by decide +kernel)) (fun _ _ _ _ _ => (pg_name (i := 4) sc_law.nd rfl (Or.inl rfl))) (fun _ _ _ _ _ => pts_nil) (fun _ _ _ _ _ => (pe_d D__law_some_paper (hr.mono (by decide)) (by rfl) (pa_cons (pv 1) (pa_cons (pv 5) (pa_cons (pv 6) (pa_cons (pe_ix (ixL (K := K) rfl) (pv 3) pe_int (fun _ _ => rfl)) pa_nil)))))))
      (pss_cons (ps_for PassesOwn.never rfl (pi_range1 (by rfl) T.b_range (pa_cons pe_int pa_nil)) (pg_name (i := 12) sc_law.nd rfl (Or.inl rfl)) (pss_one (ps_for PassesOwn.never rfl (pi_range1 (by rfl) T.b_range (pa_cons pe_int pa_nil)) (pg_name (i := 4) sc_law.nd rfl (Or.inl rfl)) (pss_cons (ps_set (i := 13) sc_law.nd rfl (Or.inl rfl) (pe_d D__law_ranks_taken (hr.mono (by decide)) (by rfl) (pa_cons (pv 5) (pa_cons (pe_ix (ixL (K := K) rfl) (pv 3) pe_int (fun _ _ => rfl)) (pa_cons (pe_ix ix_list (pv 7) (pv 4) (fun _ _ => rfl)) pa_nil)))))
      (pss_cons (ps_if (pt_not (pt_val (pe_d D__law_is_bool (hr.mono (by decide)) (by rfl) (pa_cons (pe_d D_judge_ranks (hr.mono (by decide)) (by rfl) (pa_cons (pv 5) (pa_cons (pe_ix (ixL (K := K) rfl) (pv 3) pe_int (fun _ _ => rfl)) (pa_cons (pe_ix ix_list (pv 7) (pv 4) (fun _ _ => rfl)) pa_nil)))) (pa_cons (pv 13) pa_nil))))) (pss_one (ps_ret pe_bl)) pss_nil)
      (pss_cons (ps_set (i := 13) sc_law.nd rfl (Or.inl rfl) (pe_d D__law_ring_taken (hr.mono (by decide)) (by rfl) (pa_cons (pv 5) (pa_cons (pe_ix (ixL (K := K) rfl) (pv 3) pe_int (fun _ _ => rfl)) (pa_cons (pe_ix ix_tup (pe_ix ix_list (pv 8) (pv 4) (fun _ _ => rfl)) pe_int (fun _ _ => rfl)) (pa_cons (pe_ix ix_tup (pe_ix ix_list (pv 8) (pv 4) (fun _ _ => rfl)) pe_int (fun _ _ => rfl)) pa_nil))))))
      (pss_cons (ps_if (pt_not (pt_val (pe_d D__law_is_bool (hr.mono (by decide)) (by rfl) (pa_cons (pe_d D_judge_ring (hr.mono (by decide)) (by rfl) (pa_cons (pv 5) (pa_cons (pe_ix (ixL (K := K) rfl) (pv 3) pe_int (fun _ _ => rfl)) (pa_cons (pe_ix ix_list (pv 8) (pv 4) (fun _ _ => rfl)) pa_nil)))) (pa_cons (pv 13) pa_nil))))) (pss_one (ps_ret pe_bl)) pss_nil)
      (pss_cons (ps_set (i := 13) sc_law.nd rfl (Or.inl rfl) (pe_d D__law_rate_taken (hr.mono (by decide)) (by rfl) (pa_cons (pv 5) (pa_cons (pv 6) (pa_cons (pe_ix ix_list (pv 11) (pv 4) (fun _ _ => rfl)) pa_nil)))))
      (pss_one (ps_if (pt_not (pt_val (pe_d D__law_is_bool (hr.mono (by decide)) (by rfl) (pa_cons (pe_d D_judge_rate (hr.mono (by decide)) (by rfl) (pa_cons (pv 5) (pa_cons (pv 6) (pa_cons (pe_ix ix_list (pv 11) (pv 4) (fun _ _ => rfl)) pa_nil)))) (pa_cons (pv 13) pa_nil))))) (pss_one (ps_ret pe_bl)) pss_nil))))))))))
      (pss_one (ps_ret pe_bl)))))))))))), ?_⟩
    refine ⟨_, rfl, a, ns, rfl, hS, hl, fun S D H1 s1 D0 d => ?_⟩
    refine ⟨rfl, fun Nm hNm => ?_⟩
    have d2 := d.new (o := .lst (POOL.map V.str)) hNm
    have NmD := (d.free hNm).1
    have NmS := (d.free hNm).2
    have hN2 := upd_same (H := H1) (a := Nm) (o := .lst (POOL.map V.str))
    generalize upd H1 Nm (.lst (POOL.map V.str)) = H2 at d2 hN2
    refine ⟨_, rfl, by decide, by decide, fun Lm hLm => lc_range (lo := 0) (n := 3) (fun j H' => ∃ nms ms : List Str, DrawAt S D H' ∧ H' Nm = some (.lst (nms.map V.str)) ∧ H' Lm = some (.lst (ms.map V.str)) ∧ nms.length + j = 60 ∧ ms.length = j ∧ (nms ++ ms).Nodup)
      ⟨POOL, [], d2.new hLm, same_new hLm _ _ hN2, upd_same, by rw [pool_len], rfl, by rw [List.append_nil]; exact pool_nd⟩ ?_ ?_⟩
    · rintro j H4 hj ⟨nms, ms, d4, hN4, hM4, hl4, hm4, ho⟩
      have LmD := (d2.free hLm).1
      have LmS := (d2.free hLm).2
      have LmN : Lm ≠ Nm := (ne_of_none hN2 hLm).symm
      refine ⟨rfl, _, rfl, _, rfl, S, D, Nm, nms.map V.str, rfl, d4, NmD, hN4, by rw [List.length_map]; omega, by rw [List.length_map]; omega, fun H5 jx x g5 hx => ?_⟩
      rw [List.getElem?_map] at hx
      obtain ⟨z, hz, rfl⟩ := Option.map_eq_some_iff.mp hx
      have hjx := (List.getElem?_eq_some_iff.mp hz).1
      have ee : (nms.map V.str).eraseIdx jx = (nms.eraseIdx jx).map V.str := by
        first
          | exact List.eraseIdx_map ..
          | exact (List.map_eraseIdx ..).symm
          | simp [List.eraseIdx_eq_take_drop_succ]
      rw [ee]
      have hM5 := g5.2 _ _ hM4 LmD
      refine ⟨_, by rw [upd_ne LmN]; exact hM5, by rw [List.length_map]; exact line6 (by omega), nms.eraseIdx jx, ms ++ [z], (g5.1.upd NmD NmS).upd LmD LmS, by rw [upd_ne LmN.symm, upd_same], by rw [upd_same, List.map_append]; rfl, ?_, by rw [List.length_append, List.length_singleton, hm4], nodup_move ho hz⟩
      rw [List.length_eraseIdx_of_lt hjx]
      omega
    · rintro H4 ⟨nms, ms, d4, hN4, hM4, hl4, hm4, ho⟩
      have ndM : ms.Nodup := (List.nodup_append.mp ho).2.1
      have LmD := (d2.free hLm).1
      obtain ⟨m0, m1, m2, rfl⟩ : ∃ m0 m1 m2, ms = [m0, m1, m2] := by
        match ms, hm4 with
        | [x, y, z], _ => exact ⟨x, y, z, rfl⟩
      refine ⟨_, rfl, _, rfl, noP ⟨_, rfl, Lm, _, rfl, SqL.of hM4, fun p3 hp3 => ?_⟩⟩
      have ec : cutV ([m0, m1, m2].map V.str) none (some 2) = [V.str m0, V.str m1] := by
        rw [show (some 2 : Option Int) = some ((2 : Nat) : Int) from rfl, cut_to (by show 2 ≤ 3; decide)]
        rfl
      rw [ec]
      have g5 := Go.new (o := .lst [V.str m0, V.str m1]) d4 hp3
      have hp35 := upd_same (H := H4) (a := p3) (o := .lst [V.str m0, V.str m1])
      have p3D := (d4.free hp3).1
      generalize upd H4 p3 (.lst [V.str m0, V.str m1]) = H5 at g5 hp35
      refine ⟨S, D, p3, 8, m0, m1, rfl, g5.1, p3D, hp35, by decide, by decide, fun H6 vc b C g6 hC ok => ?_⟩
      have g56 := g5.trans g6
      have hM6 := g56.2 _ _ hM4 LmD
      refine ⟨_, rfl, _, rfl, S, D, Lm, [m0, m1, m2], rfl, g6.1, LmD, hM6, ndM, by show 3 ≤ 100; decide, fun H7 vw W g7 hw nd hwl hW => ?_⟩
      have hC7 := dp_keep (Go.keepT g6.1 g7) _ _ (dChn_noL b C) hC
      have hM7 := g7.2 _ _ hM6 LmD
      have wl : W.length ≤ 1000 := by omega
      obtain ⟨pc, pq, xs, rfl, hpc7, hpq7, hA7⟩ := chn_at hC7
      have hC7 : Dp K H7 (.ref pc) (dChn b C) := by assumption
      have kR : ∀ (H H' : Hp) (v : V), KeepT H H' → RksAt K H v → RksAt K H' v := fun _ _ _ k h => h.keep k
      have kG : ∀ (H H' : Hp) (v : V), KeepT H H' → RingAt K H v 500 → RingAt K H' v 500 := fun _ _ _ k h => h.keep k
      have kP : ∀ (H H' : Hp) (v : V), KeepT H H' → PapAt K H v → PapAt K H' v := fun _ _ _ k h => h.keep k
      have at0 : atI ([m0, m1, m2].map V.str) 0 = some (.str m0) := atI_nat (j := 0) rfl
      have at2 : atI ([m0, m1, m2].map V.str) 2 = some (.str m2) := atI_nat (j := 2) rfl
      refine ⟨_, rfl, by decide, by decide, fun Lr hLr => lc_range (lo := 0) (n := 2) (fun j H' => Go S D H7 H' ∧ LsI (RksAt K) H' Lr j) ⟨Go.new g7.1 hLr, [], upd_same, rfl, fun _ h => absurd h List.not_mem_nil⟩ ?_ ?_⟩
      · rintro j H8 hj ⟨g8, us, hL8, ul, hus⟩
        have LD := (g7.1.free hLr).1
        refine ⟨rfl, _, rfl, _, rfl, _, rfl, Lm, _, _, _, rfl, rfl, SqL.of (g8.2 _ _ hM7 LmD), at0, S, D, .ref pc, m0, b, C, rfl, g8.1, dp_keep (Go.keepT g7.1 g8) _ _ (dChn_noL b C) hC7, ok, fun H9 v g9 ra => ?_⟩
        have k9 := Go.keepT g8.1 g9
        have hL9 := g9.2 _ _ hL8 LD
        exact ⟨us, hL9, line6 (by omega), goU hLr g7.1 (g8.trans g9), ul ▸ LsI.push (R := RksAt K) kR hL9 (fun y hy => (hus y hy).keep k9) ra⟩
      rintro H8 ⟨g8, rows8⟩
      have LrD := (g7.1.free hLr).1
      refine ⟨Nat.zero_le _, fun Lg hLg => ?_⟩
      have s9 := same_new (o := .lst []) hLg
      have hG9 := upd_same (H := H8) (a := Lg) (o := .lst [])
      have Lg7 : H7 Lg = none := g8.free g7.1 hLg
      have LgD := (g7.1.free Lg7).1
      have LgR : Lg ≠ Lr := by
        obtain ⟨us, h, _⟩ := rows8
        exact (ne_of_none h hLg).symm
      have rows9 := rows8.same kR s9
      have g9 := g8.trans (Go.same g8.1 s9)
      generalize upd H8 Lg (.lst []) = H9 at s9 hG9 rows9 g9
      refine ⟨_, rfl, by decide, by decide, for_range (lo := 0) (n := 2) (fun i σ H' => ∃ (y4 y9 y10 : Option V), σ = [some (.ref a), some (.ref D), some (.ref Nm), some (.ref Lm), y4, some (.ref pc), some vw, some (.ref Lr), some (.ref Lg), y9, y10, none, none, none] ∧ Go S D H7 H' ∧ LsI (RksAt K) H' Lr 2 ∧ LsI (fun H v => RingAt K H v 500) H' Lg i) ⟨_, _, _, rfl, g9, rows9, [], hG9, rfl, fun _ h => absurd h List.not_mem_nil⟩ ?_ ?_⟩
      · rintro i σ H10 hi ⟨y4, y9, y10, rfl, g10, rows10, rings10⟩
        refine ⟨_, rfl, _, rfl, _, rfl, Lm, _, _, _, rfl, rfl, SqL.of (g10.2 _ _ hM7 LmD), at0, S, D, .ref pc, m0, b, C, rfl, g10.1, dp_keep (Go.keepT g7.1 g10) _ _ (dChn_noL b C) hC7, ok, fun H11 v g11 ra => ?_⟩
        obtain ⟨pr, ww, wr, rfl, hpr, w1', w2'⟩ := ra
        have gg := g10.trans g11
        have hpc11 := sqt_keep (Go.keepT g7.1 gg) hpc7
        obtain ⟨us, hL10, ul, hus⟩ := rings10
        have hL11 := g11.2 _ _ hL10 LgD
        refine ⟨_, _, rfl, hpr, rfl, _, _, rfl, _, _, rfl, rfl, ?_⟩
        refine ⟨_, rfl, .inl ⟨rfl, _, SqL.of hL11⟩, _, rfl, _, rfl, pc, _, _, _, rfl, rfl, hpc11, atI_nat (j := 1) rfl, _, rfl, _, rfl, S, D, b, ww, wr, rfl, g11.1, ok.b2, ok.b6, w1'.up (by decide), w2'.up (by decide), fun H12 v g12 ra => ?_⟩
        have hL12 := g12.2 _ _ hL11 LgD
        have k12 := Go.keepT g10.1 (g11.trans g12)
        refine ⟨Lg, us, v, rfl, rfl, hL12, line6 (by omega), ?_⟩
        refine ⟨_, _, _, rfl, goU Lg7 g7.1 (gg.trans g12), ?_, ul ▸ LsI.push (R := fun H v => RingAt K H v 500) kG hL12 (fun y hy => (hus y hy).keep k12) ra⟩
        obtain ⟨rs, h1, h2, h3⟩ := rows10.go kR g10.1 (g11.trans g12) LrD
        exact ⟨rs, by rw [upd_ne LgR.symm]; exact h1, h2, fun x hx => (h3 x hx).keep (keepT_nt (nt_lst _) hL12)⟩
      rintro σ H10 ⟨y4, y9, y10, rfl, g10, rows10, rings10⟩
      refine ⟨_, rfl, by decide, by decide, fun Lp hLp => lc_range (lo := 0) (n := 2) (fun j H' => Go S D H10 H' ∧ LsI (PapAt K) H' Lp j) ⟨Go.new g10.1 hLp, [], upd_same, rfl, fun _ h => absurd h List.not_mem_nil⟩ ?_ ?_⟩
      · rintro j H11 hj ⟨g11, us, hL11, ul, hus⟩
        have LD := (g10.1.free hLp).1
        have gg := g10.trans g11
        refine ⟨rfl, _, rfl, _, rfl, _, rfl, _, rfl, Lm, _, _, _, rfl, rfl, SqL.of (gg.2 _ _ hM7 LmD), at2, S, D, .ref pc, vw, m2, b, C, W, rfl, g11.1, dp_keep (Go.keepT g7.1 gg) _ _ (dChn_noL b C) hC7, ok, (hw.go g7.1 gg).s, nd, wl, hW, fun H12 v pace pots way ring g12 hd hk => ?_⟩
        have k12 := Go.keepT g11.1 g12
        have hL12 := g12.2 _ _ hL11 LD
        exact ⟨us, hL12, line6 (by omega), goU hLp g10.1 (g11.trans g12), ul ▸ LsI.push (R := PapAt K) kP hL12 (fun y hy => (hus y hy).keep k12) ⟨pace, pots, way, ring, hd, hk⟩⟩
      rintro H11 ⟨g11, paps11⟩
      have gg := g10.trans g11
      have rows11 := rows10.go kR g10.1 g11 LrD
      have rings11 := rings10.go kG g10.1 g11 LgD
      have hC11 := dp_keep (Go.keepT g7.1 gg) _ _ (dChn_noL b C) hC7
      have hw11 := hw.go g7.1 gg
      have hM11 := gg.2 _ _ hM7 LmD
      refine ⟨_, rfl, by decide, by decide, for_range (lo := 0) (n := 2) (fun i σ H' => ∃ (y4 y12 y13 : Option V), σ = [some (.ref a), some (.ref D), some (.ref Nm), some (.ref Lm), y4, some (.ref pc), some vw, some (.ref Lr), some (.ref Lg), y9, y10, some (.ref Lp), y12, y13] ∧ Same H11 H') ⟨_, _, _, rfl, Same.refl _⟩ ?_ ?_⟩
      · rintro i σ H12 hi ⟨y4, y12, y13, rfl, s12⟩
        refine ⟨_, rfl, by decide, by decide, for_range (lo := 0) (n := 2) (fun k σ H' => ∃ (y4 y13 : Option V), σ = [some (.ref a), some (.ref D), some (.ref Nm), some (.ref Lm), y4, some (.ref pc), some vw, some (.ref Lr), some (.ref Lg), y9, y10, some (.ref Lp), some (.int (0 + (i : Int))), y13] ∧ Same H11 H') ⟨_, _, rfl, s12⟩ ?_ ?_⟩
        · rintro k σ H13 hk ⟨y4, y13, rfl, s13⟩
          obtain ⟨ur, hr1, hr2, hr3⟩ := rows11
          obtain ⟨ug, hg1, hg2, hg3⟩ := rings11
          obtain ⟨up, hp1, hp2, hp3⟩ := paps11
          have e0 : (0 : Int) + (k : Int) = (k : Int) := Int.zero_add _
          obtain ⟨xr, hxr⟩ : ∃ x, ur[k]? = some x := ⟨_, List.getElem?_eq_getElem (by omega)⟩
          obtain ⟨xg, hxg⟩ : ∃ x, ug[k]? = some x := ⟨_, List.getElem?_eq_getElem (by omega)⟩
          obtain ⟨xp, hxp⟩ : ∃ x, up[k]? = some x := ⟨_, List.getElem?_eq_getElem (by omega)⟩
          have ar : atI ur (0 + (k : Int)) = some xr := by rw [e0]; exact atI_nat hxr
          have ag : atI ug (0 + (k : Int)) = some xg := by rw [e0]; exact atI_nat hxg
          have ap : atI up (0 + (k : Int)) = some xp := by rw [e0]; exact atI_nat hxp
          obtain ⟨pk, kss, rfl, hpk, ksl⟩ := hr3 xr (List.mem_of_getElem? hxr)
          obtain ⟨pg, gw, gr, rfl, hpg, ⟨way, hway, wayl⟩, ring, hring, ringl⟩ := hg3 xg (List.mem_of_getElem? hxg)
          obtain ⟨pace, pots, pway, pring, hpap, pok⟩ := hp3 xp (List.mem_of_getElem? hxp)
          refine ⟨_, rfl, _, rfl, Lm, _, _, _, rfl, rfl, SqL.of (s13 _ _ hM11), at0, _, rfl, _, rfl, Lr, _, _, _, rfl, rfl, SqL.of (s13 _ _ hr1), ar, .ref pc, m0, pk, b, C, kss, rfl, dp_same s13 _ _ hC11, ok.s, ok.pos, same_t s13 hpk, ksl, fun H14 s14 => ?_⟩
          have s14 := s13.trans s14
          refine ⟨_, rfl, _, rfl, Lm, _, _, _, rfl, rfl, SqL.of (s14 _ _ hM11), at0, _, rfl, _, rfl, Lr, _, _, _, rfl, rfl, SqL.of (s14 _ _ hr1), ar, .ref pc, m0, pk, b, C, kss, rfl, dp_same s14 _ _ hC11, ok.s, ok.pos, same_t s14 hpk, ksl, fun H15 s15 => ?_⟩
          have s15 := s14.trans s15
          refine ⟨_, rfl, _, _, rfl, ?_⟩
          rw [beq_self_eq_true]
          refine ⟨true, rfl, iteNT ?_⟩
          refine ⟨_, rfl, _, rfl, Lm, _, _, _, rfl, rfl, SqL.of (s15 _ _ hM11), at0, _, rfl, _, rfl, Lg, _, _, _, rfl, rfl, SqL.of (s15 _ _ hg1), ag, pg, _, _, _, rfl, rfl, same_t s15 hpg, atI_nat (j := 0) rfl, _, rfl, _, rfl, Lg, _, _, _, rfl, rfl, SqL.of (s15 _ _ hg1), ag, pg, _, _, _, rfl, rfl, same_t s15 hpg, atI_nat (j := 1) rfl, .ref pc, gw, gr, m0, b, C, way, ring, rfl, dp_same s15 _ _ hC11, ok, dp_same s15 _ _ hway, dp_same s15 _ _ hring, by omega, by omega, fun H16 s16 => ?_⟩
          have s16 := s15.trans s16
          refine ⟨_, rfl, _, rfl, Lm, _, _, _, rfl, rfl, SqL.of (s16 _ _ hM11), at0, _, rfl, _, rfl, Lg, _, _, _, rfl, rfl, SqL.of (s16 _ _ hg1), ag, .ref pc, .ref pg, m0, b, C, way, ring, rfl, dp_same s16 _ _ hC11, ok.s, ok.pos, .tup (same_t s16 hpg) (.cons (dp_same s16 _ _ hway) (.cons (dp_same s16 _ _ hring) .nil)), by omega, by omega, fun H17 s17 => ?_⟩
          have s17 := s16.trans s17
          refine ⟨_, rfl, _, _, rfl, ?_⟩
          rw [ring_eq ok, beq_self_eq_true]
          refine ⟨true, rfl, iteNT ?_⟩
          refine ⟨_, rfl, _, rfl, _, rfl, _, rfl, Lp, _, _, _, rfl, rfl, SqL.of (s17 _ _ hp1), ap, .ref pc, vw, xp, b, C, W, pace, pots, pway, pring, rfl, dp_same s17 _ _ hC11, ok, hw11.same s17, nd, wl, hW, dp_same s17 _ _ hpap, pok, fun H18 s18 => ?_⟩
          have s18 := s17.trans s18
          refine ⟨_, rfl, _, rfl, _, rfl, _, rfl, Lp, _, _, _, rfl, rfl, SqL.of (s18 _ _ hp1), ap, .ref pc, vw, xp, b, C, W, pace, pots, pway, pring, rfl, dp_same s18 _ _ hC11, ok, hw11.same s18, nd, wl, hW, dp_same s18 _ _ hpap, pok, fun H19 s19 => ?_⟩
          have s19 := s18.trans s19
          refine ⟨_, rfl, _, _, rfl, ?_⟩
          rw [beq_self_eq_true]
          refine ⟨true, rfl, iteNT ?_⟩
          exact ⟨_, _, rfl, s19⟩
        · rintro σ H13 ⟨y4, y13, rfl, s13⟩
          exact ⟨_, _, _, rfl, s13⟩
      · rintro σ H12 ⟨y4, y12, y13, rfl, s12⟩
        exact q _
end
end Mt
namespace Mt
open PySem PySem.Spec PyProof.Rows L2
section
variable {P : Program} {w : World} {K : PySem.W.Frag} {mg : Str → Option Value} {base : Heap}
theorem ok_product_of (T : Txt K mg) (D_make_fraction : Kept P w K mg base 1 "make_fraction" ["n", "d"] spFrac) {f : Addr} {fd : FuncData} (F : FnP K "product_of" s_product_of f fd) : FnOk P w K mg base CX0 2 f fd ["a", "b"] (spBin K mul2) := by
  refine F.ok sc_product_of (fun vs H Q E h => ?_) (fun cdv A outer s H vs Q E hr h => ?_)
  · obtain ⟨p, p2, a, b, rfl, _⟩ := h
    rfl
  · obtain ⟨p, p2, a, b, rfl, hp, hp2, za, zb, hne, q⟩ := h
    refine ⟨_, PSs.nox (pss_one (ps_ret (pe_d D_make_fraction (hr.mono (by decide)) (by rfl) (pa_cons (pe_op op_mulW (pe_ix ix_tup (pv 0) pe_int (fun _ _ => rfl)) (pe_ix ix_tup (pv 1) pe_int (fun _ _ => rfl))) (pa_cons (pe_op op_mulW (pe_ix ix_tup (pv 0) pe_int (fun _ _ => rfl)) (pe_ix ix_tup (pv 1) pe_int (fun _ _ => rfl))) pa_nil))))), ?_⟩
    exact ⟨_, rfl, p, _, _, _, rfl, rfl, hp, atI_nat (j := 0) rfl, _, rfl, p2, _, _, _, rfl, rfl, hp2, atI_nat (j := 0) rfl, _, _, rfl, rfl, wide_mul za.1 zb.1 (by decide) (by decide) (by decide), _, rfl, p, _, _, _, rfl, rfl, hp, atI_nat (j := 1) rfl, _, rfl, p2, _, _, _, rfl, rfl, hp2, atI_nat (j := 1) rfl, _, _, rfl, rfl, wide_mul za.2 zb.2 (by decide) (by decide) (by decide), _, _, rfl, hne, sz_up (mul2_sz za zb) (by decide), q⟩
end
end Mt
namespace Mt
open PySem PySem.Spec PyProof.Rows L2
set_option maxHeartbeats 4000000
def dd_branches_along : He.DefD := ⟨("branches_along", none), "branches_along", "branches_along", defArgs s_branches_along, defBody s_branches_along, defScope s_branches_along, [], []⟩
def dd_ring_along : He.DefD := ⟨("ring_along", none), "ring_along", "ring_along", defArgs s_ring_along, defBody s_ring_along, defScope s_ring_along, [], []⟩
def dd_judge_ranks : He.DefD := ⟨("judge_ranks", none), "judge_ranks", "judge_ranks", defArgs s_judge_ranks, defBody s_judge_ranks, defScope s_judge_ranks, [], []⟩
def dd_is_sure : He.DefD := ⟨("is_sure", none), "is_sure", "is_sure", defArgs s_is_sure, defBody s_is_sure, defScope s_is_sure, [], []⟩
def dd_judge_ring : He.DefD := ⟨("judge_ring", none), "judge_ring", "judge_ring", defArgs s_judge_ring, defBody s_judge_ring, defScope s_judge_ring, [], []⟩
def dd_make_fraction : He.DefD := ⟨("make_fraction", none), "make_fraction", "make_fraction", defArgs s_make_fraction, defBody s_make_fraction, defScope s_make_fraction, [], []⟩
def dd_sum_of : He.DefD := ⟨("sum_of", none), "sum_of", "sum_of", defArgs s_sum_of, defBody s_sum_of, defScope s_sum_of, [], []⟩
def dd_product_of : He.DefD := ⟨("product_of", none), "product_of", "product_of", defArgs s_product_of, defBody s_product_of, defScope s_product_of, [], []⟩
def dd_is_less : He.DefD := ⟨("is_less", none), "is_less", "is_less", defArgs s_is_less, defBody s_is_less, defScope s_is_less, [], []⟩
def dd_worth_of : He.DefD := ⟨("worth_of", none), "worth_of", "worth_of", defArgs s_worth_of, defBody s_worth_of, defScope s_worth_of, [], []⟩
def dd_worth_rows : He.DefD := ⟨("worth_rows", none), "worth_rows", "worth_rows", defArgs s_worth_rows, defBody s_worth_rows, defScope s_worth_rows, [], []⟩
def dd_judge_rate : He.DefD := ⟨("judge_rate", none), "judge_rate", "judge_rate", defArgs s_judge_rate, defBody s_judge_rate, defScope s_judge_rate, [], []⟩
def dd_is_bound : He.DefD := ⟨("is_bound", none), "is_bound", "is_bound", defArgs s_is_bound, defBody s_is_bound, defScope s_is_bound, [], []⟩
def dd__law_begin : He.DefD := ⟨("_law_begin", none), "_law_begin", "_law_begin", defArgs s__law_begin, defBody s__law_begin, defScope s__law_begin, [], []⟩
def dd__law_draw : He.DefD := ⟨("_law_draw", none), "_law_draw", "_law_draw", defArgs s__law_draw, defBody s__law_draw, defScope s__law_draw, [], []⟩
def dd__law_pick : He.DefD := ⟨("_law_pick", none), "_law_pick", "_law_pick", defArgs s__law_pick, defBody s__law_pick, defScope s__law_pick, [], []⟩
def dd__law_pop : He.DefD := ⟨("_law_pop", none), "_law_pop", "_law_pop", defArgs s__law_pop, defBody s__law_pop, defScope s__law_pop, [], []⟩
def dd__law_rare : He.DefD := ⟨("_law_rare", none), "_law_rare", "_law_rare", defArgs s__law_rare, defBody s__law_rare, defScope s__law_rare, [], []⟩
def dd__law_shuffled : He.DefD := ⟨("_law_shuffled", none), "_law_shuffled", "_law_shuffled", defArgs s__law_shuffled, defBody s__law_shuffled, defScope s__law_shuffled, [], []⟩
def dd__law_pool : He.DefD := ⟨("_law_pool", none), "_law_pool", "_law_pool", defArgs s__law_pool, defBody s__law_pool, defScope s__law_pool, [], []⟩
def dd__law_frac : He.DefD := ⟨("_law_frac", none), "_law_frac", "_law_frac", defArgs s__law_frac, defBody s__law_frac, defScope s__law_frac, [], []⟩
def dd__law_plus : He.DefD := ⟨("_law_plus", none), "_law_plus", "_law_plus", defArgs s__law_plus, defBody s__law_plus, defScope s__law_plus, [], []⟩
def dd__law_minus : He.DefD := ⟨("_law_minus", none), "_law_minus", "_law_minus", defArgs s__law_minus, defBody s__law_minus, defScope s__law_minus, [], []⟩
def dd__law_times : He.DefD := ⟨("_law_times", none), "_law_times", "_law_times", defArgs s__law_times, defBody s__law_times, defScope s__law_times, [], []⟩
def dd__law_less : He.DefD := ⟨("_law_less", none), "_law_less", "_law_less", defArgs s__law_less, defBody s__law_less, defScope s__law_less, [], []⟩
def dd__law_words : He.DefD := ⟨("_law_words", none), "_law_words", "_law_words", defArgs s__law_words, defBody s__law_words, defScope s__law_words, [], []⟩
def dd__law_worth : He.DefD := ⟨("_law_worth", none), "_law_worth", "_law_worth", defArgs s__law_worth, defBody s__law_worth, defScope s__law_worth, [], []⟩
def dd__law_downhill : He.DefD := ⟨("_law_downhill", none), "_law_downhill", "_law_downhill", defArgs s__law_downhill, defBody s__law_downhill, defScope s__law_downhill, [], []⟩
def dd__law_turned : He.DefD := ⟨("_law_turned", none), "_law_turned", "_law_turned", defArgs s__law_turned, defBody s__law_turned, defScope s__law_turned, [], []⟩
def dd__law_wide_shown : He.DefD := ⟨("_law_wide_shown", none), "_law_wide_shown", "_law_wide_shown", defArgs s__law_wide_shown, defBody s__law_wide_shown, defScope s__law_wide_shown, [], []⟩
def dd__law_wide_chain : He.DefD := ⟨("_law_wide_chain", none), "_law_wide_chain", "_law_wide_chain", defArgs s__law_wide_chain, defBody s__law_wide_chain, defScope s__law_wide_chain, [], []⟩
def dd__law_silent_chain : He.DefD := ⟨("_law_silent_chain", none), "_law_silent_chain", "_law_silent_chain", defArgs s__law_silent_chain, defBody s__law_silent_chain, defScope s__law_silent_chain, [], []⟩
def dd__law_longest : He.DefD := ⟨("_law_longest", none), "_law_longest", "_law_longest", defArgs s__law_longest, defBody s__law_longest, defScope s__law_longest, [], []⟩
def dd__law_drawn_worths : He.DefD := ⟨("_law_drawn_worths", none), "_law_drawn_worths", "_law_drawn_worths", defArgs s__law_drawn_worths, defBody s__law_drawn_worths, defScope s__law_drawn_worths, [], []⟩
def dd__law_ways_to : He.DefD := ⟨("_law_ways_to", none), "_law_ways_to", "_law_ways_to", defArgs s__law_ways_to, defBody s__law_ways_to, defScope s__law_ways_to, [], []⟩
def dd__law_best_ring : He.DefD := ⟨("_law_best_ring", none), "_law_best_ring", "_law_best_ring", defArgs s__law_best_ring, defBody s__law_best_ring, defScope s__law_best_ring, [], []⟩
def dd__law_along : He.DefD := ⟨("_law_along", none), "_law_along", "_law_along", defArgs s__law_along, defBody s__law_along, defScope s__law_along, [], []⟩
def dd__law_rate_taken : He.DefD := ⟨("_law_rate_taken", none), "_law_rate_taken", "_law_rate_taken", defArgs s__law_rate_taken, defBody s__law_rate_taken, defScope s__law_rate_taken, [], []⟩
def dd__law_is_bool : He.DefD := ⟨("_law_is_bool", none), "_law_is_bool", "_law_is_bool", defArgs s__law_is_bool, defBody s__law_is_bool, defScope s__law_is_bool, [], []⟩
def dd__law_ranks_taken : He.DefD := ⟨("_law_ranks_taken", none), "_law_ranks_taken", "_law_ranks_taken", defArgs s__law_ranks_taken, defBody s__law_ranks_taken, defScope s__law_ranks_taken, [], []⟩
def dd__law_ring_taken : He.DefD := ⟨("_law_ring_taken", none), "_law_ring_taken", "_law_ring_taken", defArgs s__law_ring_taken, defBody s__law_ring_taken, defScope s__law_ring_taken, [], []⟩
def dd__law_some_ranks : He.DefD := ⟨("_law_some_ranks", none), "_law_some_ranks", "_law_some_ranks", defArgs s__law_some_ranks, defBody s__law_some_ranks, defScope s__law_some_ranks, [], []⟩
def dd__law_some_ring : He.DefD := ⟨("_law_some_ring", none), "_law_some_ring", "_law_some_ring", defArgs s__law_some_ring, defBody s__law_some_ring, defScope s__law_some_ring, [], []⟩
def dd__law_bent_ring : He.DefD := ⟨("_law_bent_ring", none), "_law_bent_ring", "_law_bent_ring", defArgs s__law_bent_ring, defBody s__law_bent_ring, defScope s__law_bent_ring, [], []⟩
def dd__law_own_paper : He.DefD := ⟨("_law_own_paper", none), "_law_own_paper", "_law_own_paper", defArgs s__law_own_paper, defBody s__law_own_paper, defScope s__law_own_paper, [], []⟩
def dd__law_some_paper : He.DefD := ⟨("_law_some_paper", none), "_law_some_paper", "_law_some_paper", defArgs s__law_some_paper, defBody s__law_some_paper, defScope s__law_some_paper, [], []⟩
def dd_law : He.DefD := ⟨("law", none), "law", "law", defArgs s_law, defBody s_law, defScope s_law, [], []⟩
def dds : List He.DefD := [dd_branches_along, dd_ring_along, dd_judge_ranks, dd_is_sure, dd_judge_ring, dd_make_fraction, dd_sum_of, dd_product_of, dd_is_less, dd_worth_of, dd_worth_rows, dd_judge_rate, dd_is_bound, dd__law_begin, dd__law_draw, dd__law_pick, dd__law_pop, dd__law_rare, dd__law_shuffled, dd__law_pool, dd__law_frac, dd__law_plus, dd__law_minus, dd__law_times, dd__law_less, dd__law_words, dd__law_worth, dd__law_downhill, dd__law_turned, dd__law_wide_shown, dd__law_wide_chain, dd__law_silent_chain, dd__law_longest, dd__law_drawn_worths, dd__law_ways_to, dd__law_best_ring, dd__law_along, dd__law_rate_taken, dd__law_is_bool, dd__law_ranks_taken, dd__law_ring_taken, dd__law_some_ranks, dd__law_some_ring, dd__law_bent_ring, dd__law_own_paper, dd__law_some_paper, dd_law]
def fas : List He.Fa := [.glo "branches_along", .glo "ring_along", .glo "judge_ranks", .glo "is_sure", .glo "judge_ring", .glo "make_fraction", .glo "sum_of", .glo "product_of", .glo "is_less", .glo "worth_of", .glo "worth_rows", .glo "judge_rate", .glo "is_bound", .glo "_law_begin", .glo "_law_draw", .glo "_law_pick", .glo "_law_pop", .glo "_law_rare", .glo "_law_shuffled", .glo "_law_pool", .glo "_law_frac", .glo "_law_plus", .glo "_law_minus", .glo "_law_times", .glo "_law_less", .glo "_law_words", .glo "_law_worth", .glo "_law_downhill", .glo "_law_turned", .glo "_law_wide_shown", .glo "_law_wide_chain", .glo "_law_silent_chain", .glo "_law_longest", .glo "_law_drawn_worths", .glo "_law_ways_to", .glo "_law_best_ring", .glo "_law_along", .glo "_law_rate_taken", .glo "_law_is_bool", .glo "_law_ranks_taken", .glo "_law_ring_taken", .glo "_law_some_ranks", .glo "_law_some_ring", .glo "_law_bent_ring", .glo "_law_own_paper", .glo "_law_some_paper", .glo "law", .free "int", .free "abs", .free "len", .free "isinstance", .free "bool", .free "tuple", .free "list", .free "range", .free "sum", .free "all", .free "any", .free "sorted", .free "zip", .free "dict"]
def exM (K : PySem.W.Frag) : Bool := He.eqO (PySem.W.nsIn K mainGlobals "gcd") (some (some (.builtin "math.gcd")))
abbrev R : PySem.W.OpenRow := PySem.W.OpenLaw.row PySem.Challenge.rw_meantrace_k78_rings_judged
abbrev hk : PySem.W.Hook := hookM 4 fas dds exM
def ob (s : PySem.W.SharedT) : AlM := obsM 4 fas dds exM (HandSHeadRun.getT s)
theorem ob_eq (s : PySem.W.SharedT) : ob s = hk.obs s.abs := obsM_eq (HandSHeadRun.getT_eq s)
def names : List PySem.Str := (["branches_along", "ring_along", "judge_ranks", "is_sure", "judge_ring", "make_fraction", "sum_of", "product_of", "is_less", "worth_of", "worth_rows", "judge_rate", "is_bound", "_law_begin", "_law_draw", "_law_pick", "_law_pop", "_law_rare", "_law_shuffled", "_law_pool", "_law_frac", "_law_plus", "_law_minus", "_law_times", "_law_less"] : List PySem.Str) ++ (["_law_words", "_law_worth", "_law_downhill", "_law_turned", "_law_wide_shown", "_law_wide_chain", "_law_silent_chain", "_law_longest", "_law_drawn_worths", "_law_ways_to", "_law_best_ring", "_law_along", "_law_rate_taken", "_law_is_bool", "_law_ranks_taken", "_law_ring_taken", "_law_some_ranks", "_law_some_ring", "_law_bent_ring", "_law_own_paper", "_law_some_paper"] : List PySem.Str)
theorem run (w : World) : HandSHeadRun.RunEqI R (PySem.W.view R.prog [0, 53]) hk ob 3000 names w := by
  unfold HandSHeadRun.RunEqI; kernel_rfl
theorem facts {P : Program} {w : World} {K : PySem.W.Frag} {h : Heap} {mg : Str → Option Value} {f : Addr} (X : K.In h) (G : h.Ns mainGlobals mg) (hfa : mg ("law" : Str) = some (.ref f)) (c : SaysM fas dds exM K) :
    ∃ fd : FuncData, (∀ (s : Shared) (v : Value), BindsTo s fd ⟨[v], []⟩ [("script", v)]) ∧ ∀ base : Heap, K.In base → base.Ns mainGlobals mg → FnOk P w K mg base CX0 6 f fd ["script"] (spLaw K) := by
  obtain ⟨fd, F⟩ := c.1.def_ 46 (d := dd_law) rfl
  have e := hfa.symm.trans (He.glo_ok X G (c.1.fact 46 (f := .glo "law") rfl))
  cases e
  have T : Txt K mg := ⟨He.free_ok X G (c.1.fact 47 (f := .free "int") rfl), He.free_ok X G (c.1.fact 48 (f := .free "abs") rfl), He.free_ok X G (c.1.fact 49 (f := .free "len") rfl), He.free_ok X G (c.1.fact 50 (f := .free "isinstance") rfl), He.free_ok X G (c.1.fact 51 (f := .free "bool") rfl), He.free_ok X G (c.1.fact 52 (f := .free "tuple") rfl), He.free_ok X G (c.1.fact 53 (f := .free "list") rfl), He.free_ok X G (c.1.fact 54 (f := .free "range") rfl), He.free_ok X G (c.1.fact 55 (f := .free "sum") rfl), He.free_ok X G (c.1.fact 56 (f := .free "all") rfl), He.free_ok X G (c.1.fact 57 (f := .free "any") rfl), He.free_ok X G (c.1.fact 58 (f := .free "sorted") rfl), He.free_ok X G (c.1.fact 59 (f := .free "zip") rfl), He.free_ok X G (c.1.fact 60 (f := .free "dict") rfl), PySem.W.mg_of X G (He.eqO_ok c.2)⟩
  have b := FunD.bindsA (ps := ["script"]) F fun _ _ _ _ _ _ us hl => match us, hl with | [_], _ => rfl
  refine ⟨fd, fun s v => b s [v] rfl, fun base _ _ => ?_⟩
  have D_branches_along : Kept P w K mg base 1 "branches_along" ["rows", "state", "blocks"] (spAlongG K) := kept_of (st := s_branches_along) X G (c.1.def_ 0 (d := dd_branches_along) rfl) (c.1.fact 0 (f := .glo "branches_along") rfl) (fun _ _ _ _ _ _ us hl => match us, hl with | [_, _, _], _ => rfl) (fun f fd F => ok_branches_along T F)
  have D_is_sure : Kept P w K mg base 1 "is_sure" ["row", "mark", "ranks", "rank"] (spSureG K) := kept_of (st := s_is_sure) X G (c.1.def_ 3 (d := dd_is_sure) rfl) (c.1.fact 3 (f := .glo "is_sure") rfl) (fun _ _ _ _ _ _ us hl => match us, hl with | [_, _, _, _], _ => rfl) (fun f fd F => ok_is_sure T F)
  have D_make_fraction : Kept P w K mg base 1 "make_fraction" ["n", "d"] spFrac := kept_of (st := s_make_fraction) X G (c.1.def_ 5 (d := dd_make_fraction) rfl) (c.1.fact 5 (f := .glo "make_fraction") rfl) (fun _ _ _ _ _ _ us hl => match us, hl with | [_, _], _ => rfl) (fun f fd F => ok_make_fraction T F)
  have D_is_less : Kept P w K mg base 1 "is_less" ["a", "b"] (spLess K) := kept_of (st := s_is_less) X G (c.1.def_ 8 (d := dd_is_less) rfl) (c.1.fact 8 (f := .glo "is_less") rfl) (fun _ _ _ _ _ _ us hl => match us, hl with | [_, _], _ => rfl) (fun f fd F => ok_is_less T F)
  have D_worth_of : Kept P w K mg base 1 "worth_of" ["worths", "shown"] (spWorthOf K) := kept_of (st := s_worth_of) X G (c.1.def_ 9 (d := dd_worth_of) rfl) (c.1.fact 9 (f := .glo "worth_of") rfl) (fun _ _ _ _ _ _ us hl => match us, hl with | [_, _], _ => rfl) (fun f fd F => ok_worth_of T F)
  have D__law_begin : Kept P w K mg base 1 "_law_begin" ["script"] (spBegin K) := kept_of (st := s__law_begin) X G (c.1.def_ 13 (d := dd__law_begin) rfl) (c.1.fact 13 (f := .glo "_law_begin") rfl) (fun _ _ _ _ _ _ us hl => match us, hl with | [_], _ => rfl) (fun f fd F => ok__law_begin T F)
  have D__law_draw : Kept P w K mg base 1 "_law_draw" ["d", "many"] spDraw := kept_of (st := s__law_draw) X G (c.1.def_ 14 (d := dd__law_draw) rfl) (c.1.fact 14 (f := .glo "_law_draw") rfl) (fun _ _ _ _ _ _ us hl => match us, hl with | [_, _], _ => rfl) (fun f fd F => ok__law_draw T F)
  have D__law_pool : Kept P w K mg base 1 "_law_pool" [] spPool := kept_of (st := s__law_pool) X G (c.1.def_ 19 (d := dd__law_pool) rfl) (c.1.fact 19 (f := .glo "_law_pool") rfl) (fun _ _ _ _ _ _ us hl => match us, hl with | [], _ => rfl) (fun f fd F => ok__law_pool T F)
  have D__law_frac : Kept P w K mg base 1 "_law_frac" ["n", "d"] spFrac := kept_of (st := s__law_frac) X G (c.1.def_ 20 (d := dd__law_frac) rfl) (c.1.fact 20 (f := .glo "_law_frac") rfl) (fun _ _ _ _ _ _ us hl => match us, hl with | [_, _], _ => rfl) (fun f fd F => ok__law_frac T F)
  have D__law_less : Kept P w K mg base 1 "_law_less" ["a", "b"] (spLess K) := kept_of (st := s__law_less) X G (c.1.def_ 24 (d := dd__law_less) rfl) (c.1.fact 24 (f := .glo "_law_less") rfl) (fun _ _ _ _ _ _ us hl => match us, hl with | [_, _], _ => rfl) (fun f fd F => ok__law_less T F)
  have D__law_worth : Kept P w K mg base 1 "_law_worth" ["worths", "shown"] (spLWorth K) := kept_of (st := s__law_worth) X G (c.1.def_ 26 (d := dd__law_worth) rfl) (c.1.fact 26 (f := .glo "_law_worth") rfl) (fun _ _ _ _ _ _ us hl => match us, hl with | [_, _], _ => rfl) (fun f fd F => ok__law_worth T F)
  have D__law_longest : Kept P w K mg base 1 "_law_longest" ["chain", "mark"] (spLLong K) := kept_of (st := s__law_longest) X G (c.1.def_ 32 (d := dd__law_longest) rfl) (c.1.fact 32 (f := .glo "_law_longest") rfl) (fun _ _ _ _ _ _ us hl => match us, hl with | [_, _], _ => rfl) (fun f fd F => ok__law_longest T F)
  have D__law_ways_to : Kept P w K mg base 1 "_law_ways_to" ["chain"] (spWays K) := kept_of (st := s__law_ways_to) X G (c.1.def_ 34 (d := dd__law_ways_to) rfl) (c.1.fact 34 (f := .glo "_law_ways_to") rfl) (fun _ _ _ _ _ _ us hl => match us, hl with | [_], _ => rfl) (fun f fd F => ok__law_ways_to T F)
  have D__law_is_bool : Kept P w K mg base 1 "_law_is_bool" ["told", "due"] spIsBool := kept_of (st := s__law_is_bool) X G (c.1.def_ 38 (d := dd__law_is_bool) rfl) (c.1.fact 38 (f := .glo "_law_is_bool") rfl) (fun _ _ _ _ _ _ us hl => match us, hl with | [_, _], _ => rfl) (fun f fd F => ok__law_is_bool T F)
  have D__law_ranks_taken : Kept P w K mg base 1 "_law_ranks_taken" ["chain", "mark", "ranks"] (spRkTaken K) := kept_of (st := s__law_ranks_taken) X G (c.1.def_ 39 (d := dd__law_ranks_taken) rfl) (c.1.fact 39 (f := .glo "_law_ranks_taken") rfl) (fun _ _ _ _ _ _ us hl => match us, hl with | [_, _, _], _ => rfl) (fun f fd F => ok__law_ranks_taken T F)
  have D_ring_along : Kept P w K mg base 2 "ring_along" ["rows", "way", "ring"] (spRAlongG K) := kept_of (st := s_ring_along) X G (c.1.def_ 1 (d := dd_ring_along) rfl) (c.1.fact 1 (f := .glo "ring_along") rfl) (fun _ _ _ _ _ _ us hl => match us, hl with | [_, _, _], _ => rfl) (fun f fd F => ok_ring_along T D_branches_along F)
  have D_judge_ranks : Kept P w K mg base 2 "judge_ranks" ["chain", "mark", "ranks"] (spJRanksG K) := kept_of (st := s_judge_ranks) X G (c.1.def_ 2 (d := dd_judge_ranks) rfl) (c.1.fact 2 (f := .glo "judge_ranks") rfl) (fun _ _ _ _ _ _ us hl => match us, hl with | [_, _, _], _ => rfl) (fun f fd F => ok_judge_ranks T D_is_sure F)
  have D_sum_of : Kept P w K mg base 2 "sum_of" ["a", "b"] (spBin K add2) := kept_of (st := s_sum_of) X G (c.1.def_ 6 (d := dd_sum_of) rfl) (c.1.fact 6 (f := .glo "sum_of") rfl) (fun _ _ _ _ _ _ us hl => match us, hl with | [_, _], _ => rfl) (fun f fd F => ok_sum_of T D_make_fraction F)
  have D_product_of : Kept P w K mg base 2 "product_of" ["a", "b"] (spBin K mul2) := kept_of (st := s_product_of) X G (c.1.def_ 7 (d := dd_product_of) rfl) (c.1.fact 7 (f := .glo "product_of") rfl) (fun _ _ _ _ _ _ us hl => match us, hl with | [_, _], _ => rfl) (fun f fd F => ok_product_of T D_make_fraction F)
  have D_worth_rows : Kept P w K mg base 2 "worth_rows" ["chain", "worths"] (spWRows K) := kept_of (st := s_worth_rows) X G (c.1.def_ 10 (d := dd_worth_rows) rfl) (c.1.fact 10 (f := .glo "worth_rows") rfl) (fun _ _ _ _ _ _ us hl => match us, hl with | [_, _], _ => rfl) (fun f fd F => ok_worth_rows T D_worth_of F)
  have D__law_pick : Kept P w K mg base 2 "_law_pick" ["d", "row"] (spPick K) := kept_of (st := s__law_pick) X G (c.1.def_ 15 (d := dd__law_pick) rfl) (c.1.fact 15 (f := .glo "_law_pick") rfl) (fun _ _ _ _ _ _ us hl => match us, hl with | [_, _], _ => rfl) (fun f fd F => ok__law_pick T D__law_draw F)
  have D__law_pop : Kept P w K mg base 2 "_law_pop" ["d", "row"] spPop := kept_of (st := s__law_pop) X G (c.1.def_ 16 (d := dd__law_pop) rfl) (c.1.fact 16 (f := .glo "_law_pop") rfl) (fun _ _ _ _ _ _ us hl => match us, hl with | [_, _], _ => rfl) (fun f fd F => ok__law_pop T D__law_draw F)
  have D__law_rare : Kept P w K mg base 2 "_law_rare" ["d", "many"] spRare := kept_of (st := s__law_rare) X G (c.1.def_ 17 (d := dd__law_rare) rfl) (c.1.fact 17 (f := .glo "_law_rare") rfl) (fun _ _ _ _ _ _ us hl => match us, hl with | [_, _], _ => rfl) (fun f fd F => ok__law_rare T D__law_draw F)
  have D__law_shuffled : Kept P w K mg base 2 "_law_shuffled" ["d", "row"] (spShufP K) := kept_of (st := s__law_shuffled) X G (c.1.def_ 18 (d := dd__law_shuffled) rfl) (c.1.fact 18 (f := .glo "_law_shuffled") rfl) (fun _ _ _ _ _ _ us hl => match us, hl with | [_, _], _ => rfl) (fun f fd F => ok__law_shuffled T D__law_draw F)
  have D__law_plus : Kept P w K mg base 2 "_law_plus" ["a", "b"] (spBin K add2) := kept_of (st := s__law_plus) X G (c.1.def_ 21 (d := dd__law_plus) rfl) (c.1.fact 21 (f := .glo "_law_plus") rfl) (fun _ _ _ _ _ _ us hl => match us, hl with | [_, _], _ => rfl) (fun f fd F => ok__law_plus T D__law_frac F)
  have D__law_minus : Kept P w K mg base 2 "_law_minus" ["a", "b"] (spBin K sub2) := kept_of (st := s__law_minus) X G (c.1.def_ 22 (d := dd__law_minus) rfl) (c.1.fact 22 (f := .glo "_law_minus") rfl) (fun _ _ _ _ _ _ us hl => match us, hl with | [_, _], _ => rfl) (fun f fd F => ok__law_minus T D__law_frac F)
  have D__law_times : Kept P w K mg base 2 "_law_times" ["a", "b"] (spBin K mul2) := kept_of (st := s__law_times) X G (c.1.def_ 23 (d := dd__law_times) rfl) (c.1.fact 23 (f := .glo "_law_times") rfl) (fun _ _ _ _ _ _ us hl => match us, hl with | [_, _], _ => rfl) (fun f fd F => ok__law_times T D__law_frac F)
  have D__law_words : Kept P w K mg base 2 "_law_words" ["d", "base", "many"] (spWords K) := kept_of (st := s__law_words) X G (c.1.def_ 25 (d := dd__law_words) rfl) (c.1.fact 25 (f := .glo "_law_words") rfl) (fun _ _ _ _ _ _ us hl => match us, hl with | [_, _, _], _ => rfl) (fun f fd F => ok__law_words T D__law_draw F)
  have D__law_best_ring : Kept P w K mg base 2 "_law_best_ring" ["chain", "worths", "states"] (spBest K) := kept_of (st := s__law_best_ring) X G (c.1.def_ 35 (d := dd__law_best_ring) rfl) (c.1.fact 35 (f := .glo "_law_best_ring") rfl) (fun _ _ _ _ _ _ us hl => match us, hl with | [_, _, _], _ => rfl) (fun f fd F => ok__law_best_ring T D__law_frac D__law_less D__law_worth F)
  have D__law_along : Kept P w K mg base 2 "_law_along" ["chain", "worths", "start", "blocks"] (spLAlong K) := kept_of (st := s__law_along) X G (c.1.def_ 36 (d := dd__law_along) rfl) (c.1.fact 36 (f := .glo "_law_along") rfl) (fun _ _ _ _ _ _ us hl => match us, hl with | [_, _, _, _], _ => rfl) (fun f fd F => ok__law_along T D__law_worth F)
  have D_judge_ring : Kept P w K mg base 3 "judge_ring" ["chain", "mark", "paper"] (spJRingG K) := kept_of (st := s_judge_ring) X G (c.1.def_ 4 (d := dd_judge_ring) rfl) (c.1.fact 4 (f := .glo "judge_ring") rfl) (fun _ _ _ _ _ _ us hl => match us, hl with | [_, _, _], _ => rfl) (fun f fd F => ok_judge_ring T D_ring_along F)
  have D_is_bound : Kept P w K mg base 3 "is_bound" ["row", "speed", "potentials", "potential"] (spBound K) := kept_of (st := s_is_bound) X G (c.1.def_ 12 (d := dd_is_bound) rfl) (c.1.fact 12 (f := .glo "is_bound") rfl) (fun _ _ _ _ _ _ us hl => match us, hl with | [_, _, _, _], _ => rfl) (fun f fd F => ok_is_bound T D_sum_of D_is_less F)
  have D__law_downhill : Kept P w K mg base 3 "_law_downhill" ["d", "base", "states", "mark", "other"] (spDown K) := kept_of (st := s__law_downhill) X G (c.1.def_ 27 (d := dd__law_downhill) rfl) (c.1.fact 27 (f := .glo "_law_downhill") rfl) (fun _ _ _ _ _ _ us hl => match us, hl with | [_, _, _, _, _], _ => rfl) (fun f fd F => ok__law_downhill T D__law_draw D__law_pick D__law_words F)
  have D__law_turned : Kept P w K mg base 3 "_law_turned" ["d", "rows"] (spTurn K) := kept_of (st := s__law_turned) X G (c.1.def_ 28 (d := dd__law_turned) rfl) (c.1.fact 28 (f := .glo "_law_turned") rfl) (fun _ _ _ _ _ _ us hl => match us, hl with | [_, _], _ => rfl) (fun f fd F => ok__law_turned T D__law_shuffled F)
  have D__law_wide_shown : Kept P w K mg base 3 "_law_wide_shown" ["d", "marks"] (spShown K) := kept_of (st := s__law_wide_shown) X G (c.1.def_ 29 (d := dd__law_wide_shown) rfl) (c.1.fact 29 (f := .glo "_law_wide_shown") rfl) (fun _ _ _ _ _ _ us hl => match us, hl with | [_, _], _ => rfl) (fun f fd F => ok__law_wide_shown T D__law_pick F)
  have D__law_drawn_worths : Kept P w K mg base 3 "_law_drawn_worths" ["d", "marks"] (spWorths K) := kept_of (st := s__law_drawn_worths) X G (c.1.def_ 33 (d := dd__law_drawn_worths) rfl) (c.1.fact 33 (f := .glo "_law_drawn_worths") rfl) (fun _ _ _ _ _ _ us hl => match us, hl with | [_, _], _ => rfl) (fun f fd F => ok__law_drawn_worths T D__law_draw D__law_pick F)
  have D__law_rate_taken : Kept P w K mg base 3 "_law_rate_taken" ["chain", "worths", "paper"] (spTaken K) := kept_of (st := s__law_rate_taken) X G (c.1.def_ 37 (d := dd__law_rate_taken) rfl) (c.1.fact 37 (f := .glo "_law_rate_taken") rfl) (fun _ _ _ _ _ _ us hl => match us, hl with | [_, _, _], _ => rfl) (fun f fd F => ok__law_rate_taken T D__law_plus D__law_times D__law_less D__law_worth D__law_along F)
  have D__law_ring_taken : Kept P w K mg base 3 "_law_ring_taken" ["chain", "mark", "way", "ring"] (spRgTaken K) := kept_of (st := s__law_ring_taken) X G (c.1.def_ 40 (d := dd__law_ring_taken) rfl) (c.1.fact 40 (f := .glo "_law_ring_taken") rfl) (fun _ _ _ _ _ _ us hl => match us, hl with | [_, _, _, _], _ => rfl) (fun f fd F => ok__law_ring_taken T D__law_along F)
  have D__law_some_ranks : Kept P w K mg base 3 "_law_some_ranks" ["d", "chain", "mark"] (spSomeRk K) := kept_of (st := s__law_some_ranks) X G (c.1.def_ 41 (d := dd__law_some_ranks) rfl) (c.1.fact 41 (f := .glo "_law_some_ranks") rfl) (fun _ _ _ _ _ _ us hl => match us, hl with | [_, _, _], _ => rfl) (fun f fd F => ok__law_some_ranks T D__law_draw D__law_pick D__law_longest F)
  have D__law_some_ring : Kept P w K mg base 3 "_law_some_ring" ["d", "chain", "mark"] (spSomeRg K) := kept_of (st := s__law_some_ring) X G (c.1.def_ 42 (d := dd__law_some_ring) rfl) (c.1.fact 42 (f := .glo "_law_some_ring") rfl) (fun _ _ _ _ _ _ us hl => match us, hl with | [_, _, _], _ => rfl) (fun f fd F => ok__law_some_ring T D__law_draw D__law_pick F)
  have D__law_bent_ring : Kept P w K mg base 3 "_law_bent_ring" ["d", "base", "way", "ring"] (spBentRg K) := kept_of (st := s__law_bent_ring) X G (c.1.def_ 43 (d := dd__law_bent_ring) rfl) (c.1.fact 43 (f := .glo "_law_bent_ring") rfl) (fun _ _ _ _ _ _ us hl => match us, hl with | [_, _, _, _], _ => rfl) (fun f fd F => ok__law_bent_ring T D__law_draw D__law_pick F)
  have D__law_own_paper : Kept P w K mg base 3 "_law_own_paper" ["chain", "worths", "whole"] (spOwn K) := kept_of (st := s__law_own_paper) X G (c.1.def_ 44 (d := dd__law_own_paper) rfl) (c.1.fact 44 (f := .glo "_law_own_paper") rfl) (fun _ _ _ _ _ _ us hl => match us, hl with | [_, _, _], _ => rfl) (fun f fd F => ok__law_own_paper T D__law_plus D__law_minus D__law_less D__law_worth D__law_ways_to D__law_best_ring F)
  have D_judge_rate : Kept P w K mg base 4 "judge_rate" ["chain", "worths", "paper"] (spJRate K) := kept_of (st := s_judge_rate) X G (c.1.def_ 11 (d := dd_judge_rate) rfl) (c.1.fact 11 (f := .glo "judge_rate") rfl) (fun _ _ _ _ _ _ us hl => match us, hl with | [_, _, _], _ => rfl) (fun f fd F => ok_judge_rate T D_ring_along D_product_of D_worth_of D_worth_rows D_is_bound F)
  have D__law_wide_chain : Kept P w K mg base 4 "_law_wide_chain" ["d", "base", "states", "marks"] (spWChain K) := kept_of (st := s__law_wide_chain) X G (c.1.def_ 30 (d := dd__law_wide_chain) rfl) (c.1.fact 30 (f := .glo "_law_wide_chain") rfl) (fun _ _ _ _ _ _ us hl => match us, hl with | [_, _, _, _], _ => rfl) (fun f fd F => ok__law_wide_chain T D__law_draw D__law_words D__law_wide_shown F)
  have D__law_some_paper : Kept P w K mg base 4 "_law_some_paper" ["d", "chain", "worths", "mark"] (spSomeP K) := kept_of (st := s__law_some_paper) X G (c.1.def_ 45 (d := dd__law_some_paper) rfl) (c.1.fact 45 (f := .glo "_law_some_paper") rfl) (fun _ _ _ _ _ _ us hl => match us, hl with | [_, _, _, _], _ => rfl) (fun f fd F => ok__law_some_paper T D__law_draw D__law_pick D__law_rare D__law_frac D__law_plus D__law_some_ring D__law_bent_ring D__law_own_paper F)
  have D__law_silent_chain : Kept P w K mg base 5 "_law_silent_chain" ["d", "marks", "most"] (spSChain K) := kept_of (st := s__law_silent_chain) X G (c.1.def_ 31 (d := dd__law_silent_chain) rfl) (c.1.fact 31 (f := .glo "_law_silent_chain") rfl) (fun _ _ _ _ _ _ us hl => match us, hl with | [_, _, _], _ => rfl) (fun f fd F => ok__law_silent_chain T D__law_draw D__law_pick D__law_rare D__law_downhill D__law_turned D__law_wide_chain F)
  exact ok_law T D_judge_ranks D_judge_ring D_judge_rate D__law_begin D__law_pop D__law_pool D__law_silent_chain D__law_drawn_worths D__law_rate_taken D__law_is_bool D__law_ranks_taken D__law_ring_taken D__law_some_ranks D__law_some_ring D__law_bent_ring D__law_some_paper F
end Mt
open PySem PySem.W PySem.Calls PyProof.Rows
set_option maxHeartbeats 0 in
theorem PySem.Challenge.cw_meantrace_k78_rings_judged_holds : PySem.Challenge.rw_meantrace_k78_rings_judged.Holds := by
  w_on; o_law
  refine HandSHeadRun.head_imp (r := OpenLaw.row PySem.Challenge.rw_meantrace_k78_rings_judged) (q := view (OpenLaw.row PySem.Challenge.rw_meantrace_k78_rings_judged).prog [0, 53]) (H := Mt.hk) (ob := Mt.ob) (M := 3000) (loose := Mt.names) (d := HandSHeadRun.topDef (OpenLaw.row PySem.Challenge.rw_meantrace_k78_rings_judged).prog 53) (kwd := []) Mt.ob_eq
     Mt.run (by kernel_rfl) (by kernel_rfl) (by kernel_rfl) (by rfl) (by first | assumption | decide +kernel) (by decide +kernel) ⟨rfl, rfl, rfl, rfl, rfl, by decide +kernel⟩ ?hw ?hc
  case hw => w_witness2
  case hc =>
    refine L2.walk_ofE (l := PySem.Challenge.rw_meantrace_k78_rings_judged) (n := 63) (k := 6) (x := "script") (CX := L2.CX0) rfl (by decide) (by kernel_rfl) ⟨rfl, by decide, by decide⟩ ?F (fun _ _ _ _ z => z)
    intro w mg fa h Y G hmg0
    obtain ⟨K, KX, c⟩ := Y
    have hmg : mg ("law" : PySem.Str) = some (.ref fa) := by
      have e : (HandSHeadRun.topDef (OpenLaw.row PySem.Challenge.rw_meantrace_k78_rings_judged).prog 53).name = ("law" : PySem.Str) := by kernel_rfl
      rw [← e]
      exact hmg0
    obtain ⟨fd, hb, hF⟩ := Mt.facts (P := (PySem.Challenge.rw_meantrace_k78_rings_judged).prog) (w := w) KX G hmg c
    exact ⟨K, fd, Mt.spLaw K, KX, hb, fun H a ns hl hO hS => ⟨a, ns, rfl, hS, hl, fun _ => rfl⟩, hF⟩
