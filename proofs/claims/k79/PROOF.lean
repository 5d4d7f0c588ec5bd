import PyProof.Rows.All
import Wide.All
import OpenK.AllK
import Wide.FinOn
import KE.KStateDown
import HandS.ForMost
import HandS.Wide
import HandS.IsInst
import HandS.Walk
import HandS.Style
import HandS.Evl
import HandS.StrMore
import HandS.Exc
import HandS.WordsExc
import HandS.Defaults
import HandS.Head0
import HandS.Head1
import HandS.Head2
import HandS.HeadEnd
import HandS.HeadHook1
import HandS.HeadHook2
import HandS.Gcd
import HandS.Head3
import HandS.Star
import HandS.RaiseMore
import HandS.AnyAll
import HandS.Conv
import HandS.More
import HandS.Small
import HandS.HeadHook3
import HandS.HeadHook4
import HandS.HeadWalk
import HandS.EndTab
import PyProof.GenCompT
import PyProof.TupleOfGen
import PyProof.WalksPairs
import KE.KTupSum
import KE.DataMinMax
import HandS.SortKw
import HandS.TupAny
import KE.KDictKeyed
import KE.SortData
import KE.KDictSum
import KE.KDictPairs
import PySem.Challenge.RW_meantrace_k79_whole_greatest
set_option Elab.async false
set_option linter.all false
set_option maxRecDepth 100000
/-! Our own words over the hand layer: defs of the top by name, the draws' state, heaps that go on. -/
namespace Mt
open PySem PySem.Spec PyProof.Rows L2
section
variable {P : Program} {w : World} {K : PySem.W.Frag} {mg : Str → Option Value} {base : Heap}
abbrev FnP (K : PySem.W.Frag) (x : Str) (st : Stmt) (f : Addr) (fd : FuncData) : Prop := FunD K x x (defArgs st) (defBody st) (defScope st) [] [] f fd
/-- a def that keeps its promise -/
def Kept (P : Program) (w : World) (K : PySem.W.Frag) (mg : Str → Option Value) (base : Heap) (k : Nat) (x : Str) (ps : List Str) (sp : Sp) : Prop :=
  ∃ f fd, FnOk P w K mg base CX0 k f fd ps sp ∧ mg x = some (.ref f) ∧ PySem.W.keepIn K (.ref f) = true ∧ Binds K fd ps []
/-- what the head tells: facts by names, defs, one more word of one's own -/
abbrev AlM : Type := He.AlD × Bool
def obsM (n : Nat) (fa : List He.Fa) (fn : List He.DefD) (ex : PySem.W.Frag → Bool) (g : Addr → Option Obj) : AlM := (He.obsDG n fa fn g, ex (He.frG g (He.asD g n)))
def SaysM (fa : List He.Fa) (fn : List He.DefD) (ex : PySem.W.Frag → Bool) (K : PySem.W.Frag) : Prop := He.SaysD fa fn K ∧ ex K = true
def hookM (n : Nat) (fa : List He.Fa) (fn : List He.DefD) (ex : PySem.W.Frag → Bool) : PySem.W.Hook where
  α := AlM
  obs := fun s => obsM n fa fn ex s.heap.get?
  val := fun _ => (He.valD fn, true)
  says := fun _ h => ∃ K : PySem.W.Frag, K.In h ∧ SaysM fa fn ex K
  of := fun _ _ e => ⟨_, He.frG_in, congrArg (fun z : AlM => z.1) e, congrArg (fun z : AlM => z.2) e⟩
  keeps := fun _ _ _ ⟨K, hK, c⟩ k => ⟨K, PySem.W.Frag.In.keeps hK k, c⟩
theorem obsM_eq {n : Nat} {fa : List He.Fa} {fn : List He.DefD} {ex : PySem.W.Frag → Bool} {g : Addr → Option Obj} {s : Shared} (h : ∀ a, g a = s.heap.get? a) : obsM n fa fn ex g = (hookM n fa fn ex).obs s := by
  have e : g = s.heap.get? := funext h
  rw [e] <;> rfl
theorem kept_of {h : Heap} (X : K.In h) (G : h.Ns mainGlobals mg) {x : Str} {ps : List Str} {st : Stmt} {k : Nat} {sp : Sp}
    (hd : ∃ fd, FnP K x st (He.ga K x) fd) (hg : (He.Fa.glo x).ok K = true)
    (hb : ∀ (kV doc pm : Value) (an : Option Addr) (cdv ct : Value) (us : List Value), us.length = ps.length → bindArgs (PySem.W.fnOf x x (defArgs st) (defBody st) (defScope st) .none kV doc pm an cdv ct) ⟨us, []⟩ = pure (ps.zip us))
    (ok : ∀ f fd, FnP K x st f fd → FnOk P w K mg base CX0 k f fd ps sp) : Kept P w K mg base k x ps sp := by
  obtain ⟨fd, F⟩ := hd
  exact ⟨_, fd, ok _ fd F, He.glo_ok X G hg, F.kp, F.bindsN hb⟩
end
section
variable {X : Cx}
theorem pe_d {k : Nat} {x : Str} {ps : List Str} {sp : Sp} {e : Expr} {es : List Expr} {t : TA} {p pos : Pos} (D : Kept X.prog X.w X.K X.mg X.base k x ps sp) (hr : Room k X.A) (hg : Gl X x) (ha : PA X (e :: es) t)
    (hdb : (x == ("__debug__" : Str)) = false := by decide) (he : starEach (e :: es) X.env = (false, eval e X.env) :: starEach es X.env := by rfl) (hpl : (backTo pos (starEach es X.env)).any (·.1) = false := by rfl) :
    PE X (.Call (.Name x p) (e :: es) [] pos) (tCall sp [] E0 t) := by
  obtain ⟨f, fd, F, g, kp, b⟩ := D
  exact pe_call F hr hg g kp b .nil pass0 ha hdb he hpl
theorem pe_d0 {k : Nat} {x : Str} {ps : List Str} {sp : Sp} {p pos : Pos} (D : Kept X.prog X.w X.K X.mg X.base k x ps sp) (hr : Room k X.A) (hg : Gl X x) (hdb : (x == ("__debug__" : Str)) = false := by decide) :
    PE X (.Call (.Name x p) [] [] pos) (tCall sp [] E0 tNil) := by
  obtain ⟨f, fd, F, g, kp, b⟩ := D
  exact pe_call0 F hr hg g kp b .nil pass0 hdb
/-- a text of the module; an object of the module -/
theorem pe_gs {x z : Str} {pos : Pos} (h : ∃ t, X.mg x = some (.str z t)) (hg : Gl X x) (hd : (x == ("__debug__" : Str)) = false := by decide) : PE X (.Name x pos) (tC (.str z)) := by
  obtain ⟨t, h⟩ := h
  exact pe_glob hg h ⟨_, rfl⟩ hd
/-- xs[i] op= e reads xs[i] -/
theorem get_list : PGet X (rIxL X.K) := by
  intro pins s σ H o i ov iv Q I ro ri h
  obtain ⟨p, xs, i, z, rfl, rfl, hq, he, q⟩ := h
  cases ro
  obtain ⟨t, rfl⟩ := ri
  obtain ⟨its, r, pl, hz⟩ := I.list hq
  obtain ⟨j, h1, h2, h3, h4, h5⟩ := atI_get he
  obtain ⟨w, ew, rw'⟩ := r.get h2
  have hl := r.length
  have hn := line63
  have fin : EP X pins σ Q w s := ⟨z, H, I, rw', q⟩
  by_cases h0 : 0 ≤ i
  · have hj : i.toNat = j := by
      rw [seqIndex_of h0 h5] at h1
      exact Option.some.inj h1
    exact wpAny_mono (wpAny_getItem_list (Q := fun r s' => r = w ∧ EP X pins σ Q r s') pl.isList h0 (by omega) (by rw [hj]; simpa using ew) ⟨rfl, fin⟩) (fun _ _ q => q.2) (fun _ _ q => q)
  · have hj : (i + (its.toArray.size : Int)).toNat = j := by
      rw [seqIndex_neg (by omega) h4] at h1
      rw [List.size_toArray, ← hl]
      exact Option.some.inj h1
    exact wpAny_mono (wpAny_getItem_list_neg (Q := fun r s' => r = w ∧ EP X pins σ Q r s') pl.isList (by omega) (by rw [List.size_toArray] <;> omega) (by omega) (by rw [hj]; simpa using ew) ⟨rfl, fin⟩) (fun _ _ q => q.2) (fun _ _ q => q)
end

/-! ### the draws: [cells, place, rest, seed] at D -/
structure DrawAt (S D : Addr) (H : Hp) : Prop where
  ne : S ≠ D
  cells : ∃ cs : List Int, H S = some (.lst (cs.map V.int))
  at_ : ∃ i r c : Int, 0 ≤ i ∧ H D = some (.lst [.ref S, .int i, .int r, .int c])
/-- all else that is tracked stays -/
def Keep (D : Addr) (H H' : Hp) : Prop := ∀ b o, H b = some o → b ≠ D → H' b = some o
def Go (S D : Addr) (H H' : Hp) : Prop := DrawAt S D H' ∧ Keep D H H'
theorem Keep.refl {D : Addr} {H : Hp} : Keep D H H := fun _ _ h _ => h
theorem Keep.trans {D : Addr} {H H1 H2 : Hp} (a : Keep D H H1) (b : Keep D H1 H2) : Keep D H H2 := fun x o h n => b x o (a x o h n) n
theorem Go.trans {S D : Addr} {H H1 H2 : Hp} (a : Go S D H H1) (b : Go S D H1 H2) : Go S D H H2 := ⟨b.1, a.2.trans b.2⟩
theorem Keep.set {D : Addr} {H H' : Hp} {o : HO} (k : Keep D H H') : Keep D H (upd H' D o) := fun b u h n => by
  rw [upd_ne n]
  exact k b u h n
theorem DrawAt.set {S D : Addr} {H : Hp} (d : DrawAt S D H) {i r c : Int} (h : 0 ≤ i) : DrawAt S D (upd H D (.lst [.ref S, .int i, .int r, .int c])) :=
  ⟨d.ne, d.cells.imp fun cs h => by rw [upd_ne d.ne]; exact h, ⟨i, r, c, h, upd_same⟩⟩
theorem DrawAt.new {S D p : Addr} {H : Hp} {o : HO} (d : DrawAt S D H) (h : H p = none) : DrawAt S D (upd H p o) := by
  obtain ⟨cs, h1⟩ := d.cells
  obtain ⟨i, r, c, h0, h2⟩ := d.at_
  exact ⟨d.ne, ⟨cs, by rw [upd_ne (ne_of_none h1 h)]; exact h1⟩, ⟨i, r, c, h0, by rw [upd_ne (ne_of_none h2 h)]; exact h2⟩⟩
theorem Keep.new {D p : Addr} {H : Hp} {o : HO} (h : H p = none) : Keep D H (upd H p o) := fun b u e _ => by
  rw [upd_ne (ne_of_none e h)]
  exact e
theorem Go.new {S D p : Addr} {H : Hp} {o : HO} (d : DrawAt S D H) (h : H p = none) : Go S D H (upd H p o) := ⟨d.new h, Keep.new h⟩
theorem Go.same {S D : Addr} {H H' : Hp} (d : DrawAt S D H) (h : Same H H') : Go S D H H' := by
  obtain ⟨cs, h1⟩ := d.cells
  obtain ⟨i, r, c, h0, h2⟩ := d.at_
  exact ⟨⟨d.ne, ⟨cs, h _ _ h1⟩, ⟨i, r, c, h0, h _ _ h2⟩⟩, fun b o e _ => h b o e⟩
theorem Go.refl {S D : Addr} {H : Hp} (d : DrawAt S D H) : Go S D H H := ⟨d, Keep.refl⟩
/-- a fresh place stays fresh when looked at from behind -/
theorem DrawAt.free {S D p : Addr} {H : Hp} (d : DrawAt S D H) (h : H p = none) : p ≠ D ∧ p ≠ S := by
  obtain ⟨cs, h1⟩ := d.cells
  obtain ⟨i, r, c, h0, h2⟩ := d.at_
  exact ⟨(ne_of_none h2 h).symm, (ne_of_none h1 h).symm⟩
theorem Go.free {S D p : Addr} {H H' : Hp} (g : Go S D H H') (d : DrawAt S D H) (h : H' p = none) : H p = none := by
  cases q : H p with
  | none => rfl
  | some o =>
    by_cases e : p = D
    · exact absurd e (g.1.free h).1
    · rw [g.2 p o q e] at h
      cases h
def spDraw : Sp := fun vs H Q _ => ∃ (S D : Addr) (many : Int), vs = [.ref D, .int many] ∧ CDivW 0 many ∧ DrawAt S D H ∧ ∀ H' v, 0 ≤ v → v < many → Go S D H H' → Q (.int v) H'
end Mt
/-! ### sorted of tuples, any length; dict(pairs); tuple() with its object known -/
namespace SR
open PySem PySem.Spec PyProof.Rows L2
section
variable {prog : Program} {w : World} {A : Around} {s : Shared}
theorem sorts_single {v : Value} {as : List Addr} (r : Reads s.heap v (.tuple []) as) : PySem.W.SortsAt prog w A s (PySem.W.dataKind s.heap [.tuple []]) [v] := by
  have hal : PySem.W.AllAlike [PyData.tuple []] := fun d hd d' hd' => by
    rw [List.mem_singleton.mp hd, List.mem_singleton.mp hd']
    rfl
  refine ⟨fun u hu => ?_, tuples' true, fun E x y a b Q ha hb hq => ?_, fun h2 => absurd h2 (by simp)⟩
  · rw [List.mem_singleton.mp hu]
    exact ⟨_, PySem.W.dataKind_some hal List.mem_cons_self r⟩
  · obtain ⟨d, as1, hd, ra, rfl⟩ := PySem.W.dataKind_inv ha
    obtain ⟨d', as2, hd', rb, rfl⟩ := PySem.W.dataKind_inv hb
    rw [List.mem_singleton.mp hd] at ra hq
    rw [List.mem_singleton.mp hd'] at rb hq
    have hq' : Q (PySem.W.dataLt (.tuple []) (.tuple [])) s := hq
    rw [PySem.W.dataLt_tuple] at hq'
    cases ra with
    | @tuple l o xs n _ _ h1 h2 h3 h4 =>
      cases rb with
      | @tuple l' o' xs' n' _ _ k1 k2 k3 k4 =>
        have n1 : xs.toList = [] := by
          cases hx : xs.toList with
          | nil => rfl
          | cons z t => rw [hx] at h4; cases h4
        have n2 : xs'.toList = [] := by
          cases hx : xs'.toList with
          | nil => rfl
          | cons z t => rw [hx] at k4; cases k4
        refine PySem.W.kat_lt h1 h3 k1 k3 ?_
        rw [n1, n2]
        have e1 : xs.size = 0 := by rw [← Array.length_toList, n1]; rfl
        have e2 : xs'.size = 0 := by rw [← Array.length_toList, n2]; rfl
        show Q (decide (xs.size < xs'.size)) s
        rw [e1, e2]
        exact hq'
end
section
variable {X : Cx}
/-- what a list of tuples of data holds, when it can be sorted -/
def SrtOk (ds : List PyData) : Prop := PySem.W.AllAlike ds ∧ (PySem.W.Sortable ds ∨ ds = [.tuple []]) ∧ ∀ d ∈ ds, d.depth ≤ 8
def rSrt (K : PySem.W.Frag) : List V → Hp → VK → Prop := fun vs H Q => ∃ (a : Addr) (bs : List (V × PyData)), vs = [V.ref a] ∧ SqL K H a (bs.map (·.1)) ∧ (∀ b ∈ bs, Dp K H b.1 b.2) ∧ SrtOk (bs.map (·.2)) ∧
  ∀ (ys : List (V × PyData)) (p : Addr), ys.Perm bs → H p = none → Q (.ref p) (upd H p (.lst (ys.map (·.1))))
theorem each_vals {bs : List (V × PyData)} {us : List Value} (r : Vals (bs.map (·.1)) us) : PySem.W.EachIs (fun v (b : V × PyData) => RelV b.1 v) us bs := by
  induction bs generalizing us with
  | nil =>
    cases r
    exact .nil
  | cons b t ih =>
    cases r with
    | cons h r => exact .cons h (ih r)
theorem vals_each {bs : List (V × PyData)} {us : List Value} (e : PySem.W.EachIs (fun v (b : V × PyData) => RelV b.1 v) us bs) : Vals (bs.map (·.1)) us := by
  induction e with
  | nil => exact .nil
  | cons h t ih => exact .cons h ih
theorem each_reads {pins : List (Addr × Obj)} {σ : L2.St} {H : Hp} {s : Shared} (I : Inv X pins σ H s) {bs : List (V × PyData)} {us : List Value} (e : PySem.W.EachIs (fun v (b : V × PyData) => RelV b.1 v) us bs) (h : ∀ b ∈ bs, Dp X.K H b.1 b.2) :
    PySem.W.EachIs (fun v (b : V × PyData) => ∃ as, Reads s.heap v b.2 as) us bs := by
  induction e with
  | nil => exact .nil
  | @cons v b us bs r t ih => exact .cons (Dp.reads I b.2 b.1 v (h b List.mem_cons_self) r) (ih fun x hx => h x (List.mem_cons_of_mem _ hx))
theorem cr_srt (hu : X.A.units + 64 < cLine) : CallR X (.builtin "sorted") (rSrt X.K) := by
  intro pins s σ H vs us Q I r q
  obtain ⟨a, bs, rfl, hs, hd, ⟨hal, hk, hdep⟩, q⟩ := q
  rw [Vals.ref1 r]
  obtain ⟨its, rv, hl, hz⟩ := I.list hs
  rw [List.length_map] at hz
  have e := each_vals rv
  have er := each_reads I e hd
  have fin : ∀ out : List Value, out.length = bs.length → PySem.W.EachIs (fun v (b : V × PyData) => RelV b.1 v) out (bs.mergeSort (PySem.W.dataLe false (·.2))) → EP X pins σ Q (.ref (s.heap.objs.size + 1)) { s with heap := sortedAll s.heap its (List.toArray out) } := fun out ho1 ho2 => by
    obtain ⟨ep, he'⟩ := PyProof.Rows.sortedAll_at s.heap its out.toArray
    have hp : (bs.mergeSort (PySem.W.dataLe false (·.2))).Perm bs := List.mergeSort_perm _ _
    exact ⟨.ref _, upd H (s.heap.objs.size + 1) (.lst ((bs.mergeSort (PySem.W.dataLe false (·.2))).map (·.1))), I.laid (t' := s.toks) (fun _ _ => PyProof.Rows.sortedAll_old) (Nat.le_succ _)
      ⟨by rw [List.length_map, hp.length_eq]; exact hz, out, ep, vals_each ho2, he'⟩, rfl, q _ _ hp (I.hok.fresh (Nat.le_succ _))⟩
  rcases hk with hk | h1
  · exact PySem.W.sorted_data (bs := bs) (enc := (·.2)) (R := fun v b => RelV b.1 v) hl.isList e er hal hk hz (fun b hb => by
      have := hdep b.2 (List.mem_map.mpr ⟨b, hb, rfl⟩)
      omega) fin
  · have hlen : its.length = bs.length := e.length
    match its, bs, e, er, hlen, h1, fin, hl, hz with
    | [u], [b], e, er, _, h1, fin, hl, hz =>
      have hb : b.2 = .tuple [] := by
        have : [b.2] = [PyData.tuple []] := h1
        exact (List.cons.inj this).1
      obtain ⟨as, rd⟩ : ∃ as, Reads s.heap u (.tuple []) as := by
        cases er with
        | cons h _ =>
          rw [hb] at h
          exact h
      have rd' : Reads (PySem.W.sortingHeap (PySem.W.copyHeap s.heap [u]) (s.heap.objs.size + 1) [u]) u (.tuple []) as := PyProof.Rows.Reads.keeps (fun _ _ => PySem.W.sorting_copy_old) rd
      have er' : PySem.W.EachIs (fun v (b : V × PyData) => ∃ as, Reads (PySem.W.sortingHeap (PySem.W.copyHeap s.heap [u]) (s.heap.objs.size + 1) [u]) v b.2 as) [u] [b] := .cons ⟨as, by rw [hb]; exact rd'⟩ .nil
      refine PySem.W.sorted_vals (κ := PySem.W.dataKind (PySem.W.sortingHeap (PySem.W.copyHeap s.heap [u]) (s.heap.objs.size + 1) [u]) [.tuple []]) hl.isList (sorts_single (s := { s with heap := PySem.W.sortingHeap (PySem.W.copyHeap s.heap [u]) (s.heap.objs.size + 1) [u] }) rd') hz ?_
      refine fin _ (by rw [PySem.W.sortVals_length false rfl]; rfl) ?_
      have := PySem.W.sortVals_data (h' := PySem.W.sortingHeap (PySem.W.copyHeap s.heap [u]) (s.heap.objs.size + 1) [u]) false e er' hal
      rw [show List.map (fun x : V × PyData => x.2) [b] = [PyData.tuple []] from h1] at this
      exact this
    | [], [], _, _, _, h1, _, _, _ => exact absurd h1 (by simp)
    | [], _ :: _, _, _, hlen, _, _, _, _ => exact absurd hlen (by simp)
    | _ :: _, [], _, _, hlen, _, _, _, _ => exact absurd hlen (by simp)
    | [_], _ :: _ :: _, _, _, hlen, _, _, _, _ => exact absurd hlen (by simp)
    | _ :: _ :: _, [_], _, _, hlen, _, _, _, _ => exact absurd hlen (by simp)
    | _ :: _ :: _, _ :: _ :: _, _, _, _, h1, _, _, _ => exact absurd h1 (by simp)
/-- a tuple whose object is known, one without attributes of its own -/
def TupK (H : Hp) (a : Addr) (ys : List V) : Prop := ∃ o : Obj, H a = some (.frz o (.tup ys)) ∧ o.dict = none
theorem TupK.sqt {K : PySem.W.Frag} {H : Hp} {a : Addr} {ys : List V} (h : TupK H a ys) : SqT K H a ys := let ⟨o, h, _⟩ := h; .inl (.inr ⟨o, h⟩)
theorem cr_tupleK : CallR X (.type "tuple") (fun xs H Q => ∃ p ys, xs = [.ref p] ∧ SqL X.K H p ys ∧ ∀ l (o : Obj), H l = none → o.dict = none → Q (.ref l) (upd H l (.frz o (.tup ys)))) := by
  intro pins s σ H xs us Q I r h
  obtain ⟨p, ys, rfl, hq, q⟩ := h
  rw [Vals.ref1 r]
  obtain ⟨its, r', pl, hz⟩ := I.list hq
  have hlen := r'.length
  refine call_tuple_list pl.isList (fun h' kp => ?_) (by simp only [List.size_toArray] <;> omega)
  have I1 : Inv X pins σ H { s with heap := h' } := I.kept (t' := s.toks) kp
  have I2 : Inv X pins σ (upd H h'.objs.size (.frz { cls := .type "tuple", data := .seq its.toArray } (.tup ys))) { s with heap := h'.push { cls := .type "tuple", data := .seq its.toArray } } :=
    I1.laid (t' := s.toks) (fun b o e => Heap.get?_push_of_some _ e) (Nat.le_refl _) (show ObjOk X.prog X.w _ _ _ (.frz _ (.tup ys)) from ⟨Heap.get?_push_size _ rfl, hz, its, r', IsTup.new _ _⟩)
  exact ⟨.ref h'.objs.size, _, I2, rfl, q _ _ (I1.hok.fresh (Nat.le_refl _)) rfl⟩
def tTupK (t : TA) : TE := fun σ H Q => t σ H fun xs H1 => xs.length ≤ sizeLine ∧ ∀ p (o : Obj), H1 p = none → o.dict = none → Q (.ref p) (upd H1 p (.frz o (.tup xs)))
theorem pe_tupK {es : List Expr} {t : TA} {pos : Pos} {x1} (h : PA X es t) : PE X (.Tuple es x1 pos) (tTupK t) := by
  refine ⟨fun pins s σ H Q I hq => ?_⟩
  refine wpAny_Tuple_spliced (thn (h.run pos pins s σ H _ I hq) fun us s1 ⟨xs, H1, I1, r, z, q⟩ => ⟨by rw [← r.length]; exact z, ?_⟩)
  have hf : H1 s1.heap.objs.size = none := I1.hok.fresh (Nat.le_refl _)
  exact ⟨.ref s1.heap.objs.size, upd H1 s1.heap.objs.size (.frz { cls := .type "tuple", data := .seq us.toArray } (.tup xs)), I1.laid (t' := s1.toks) (fun b u e => Heap.get?_push_of_some _ e) (Nat.le_refl _)
    ⟨Heap.get?_push_size _ rfl, z, us, r, ⟨_, Heap.get?_push_size _ rfl, rfl, _, rfl⟩⟩, rfl, q _ _ hf rfl⟩
/-- dict(t): t a tuple of pairs of a text and an int -/
abbrev Ptr : Type := Addr × Str × Int
def rDictT (K : PySem.W.Frag) : List V → Hp → VK → Prop := fun vs H Q => ∃ (a : Addr) (ps : List Ptr), vs = [V.ref a] ∧ TupK H a (ps.map fun p => V.ref p.1) ∧ (∀ p ∈ ps, SqT K H p.1 [.str p.2.1, .int p.2.2]) ∧
  ∀ q, H q = none → Q (.ref q) (upd H q (.dK (mergeK [] (ps.map fun p => ((.inr p.2.1 : L2.Key), V.int p.2.2)))))
def PairV (h : Heap) (p : Ptr) (q : Value × Value) : Prop := PairAt h p.1 q.1 q.2 ∧ RelV (.str p.2.1) q.1 ∧ RelV (.int p.2.2) q.2
theorem pairs_ex {pins : List (Addr × Obj)} {σ : L2.St} {H : Hp} {s : Shared} (I : Inv X pins σ H s) : ∀ {ps : List Ptr}, (∀ p ∈ ps, SqT X.K H p.1 [.str p.2.1, .int p.2.2]) → ∃ qs : List (Value × Value), Paired (PairV s.heap) ps qs
  | [], _ => ⟨[], .nil⟩
  | p :: r, h => by
    obtain ⟨qs, hq⟩ := pairs_ex I (ps := r) fun x hx => h x (List.mem_cons_of_mem _ hx)
    obtain ⟨its, rv, pl, _⟩ := I.tuple (h p List.mem_cons_self)
    obtain ⟨u1, u2, rfl, r1, r2⟩ := Vals.two rv
    exact ⟨(u1, u2) :: qs, .cons ⟨.inl pl, r1, r2⟩ hq⟩
theorem cr_dictT (hcalm : X.calm = true) : CallR X (.type "dict") (rDictT X.K) := by
  intro pins s σ H vs us Q I r q
  obtain ⟨a, ps, rfl, ⟨o, ha, hod⟩, hp, q⟩ := q
  rw [Vals.ref1 r]
  obtain ⟨hoa, hz, its, rv, ⟨o', e1, e2, n, e3⟩⟩ := I.hok a _ ha
  rw [hoa] at e1
  cases e1
  obtain ⟨qs, hq⟩ := pairs_ex I hp
  have hl : ps.length = qs.length := Paired.length hq
  have hil := rv.length
  rw [List.length_map] at hil hz
  let Ts : Nat → Addr := fun j => (ps[j]?.map (·.1)).getD 0
  have hT : ∀ j p, ps[j]? = some p → Ts j = p.1 := fun j p e => by
    show (ps[j]?.map (·.1)).getD 0 = p.1
    rw [e]
    rfl
  have hitem : PairItems s.heap its.toArray Ts qs := by
    refine ⟨by rw [List.size_toArray]; omega, fun j k v e => ?_⟩
    have hj : j < ps.length := by
      have := (List.getElem?_eq_some_iff.mp e).1
      omega
    have ej : ps[j]? = some ps[j] := List.getElem?_eq_getElem hj
    obtain ⟨b, hb, h1, _, _⟩ := paired_get hq ej
    rw [e] at hb
    cases hb
    have em : (ps.map fun p => V.ref p.1)[j]? = some (V.ref ps[j].1) := by rw [List.getElem?_map, ej]; rfl
    obtain ⟨u, hu, ru⟩ := rv.get em
    cases ru
    exact ⟨by rw [List.getElem?_toArray, hT j _ ej]; exact hu, by rw [hT j _ ej]; exact h1⟩
  let kvs : List (L2.Key × Value) := (ps.zip qs).map fun z => (.inr z.1.2.1, z.2.2)
  have hkv : KV (ps.map fun p => ((.inr p.2.1 : L2.Key), V.int p.2.2)) kvs := by
    have go : ∀ {ps : List Ptr} {qs : List (Value × Value)}, Paired (PairV s.heap) ps qs → KV (ps.map fun p => ((.inr p.2.1 : L2.Key), V.int p.2.2)) ((ps.zip qs).map fun z => (.inr z.1.2.1, z.2.2)) := fun {ps qs} h => by
      induction h with
      | nil => exact .nil
      | cons h t ih => exact .cons ⟨rfl, h.2.2⟩ ih
    exact go hq
  have hhave : PairsHave (mixKind X.prog X.w) qs.length (PairRel qs) kvs := by
    refine ⟨by show ((ps.zip qs).map _).length = _; rw [List.length_map, List.length_zip]; omega, fun i key v e => ?_⟩
    have hj : i < ps.length := by
      have := (List.getElem?_eq_some_iff.mp e).1
      omega
    have ej : ps[i]? = some ps[i] := List.getElem?_eq_getElem hj
    obtain ⟨b, hb, _, h2, _⟩ := paired_get hq ej
    have e' : qs[i]? = some (key, v) := e
    rw [e'] at hb
    cases hb
    refine ⟨.inr ps[i].2.1, ?_, ?_⟩
    · show ((ps.zip qs).map _)[i]? = _
      rw [List.getElem?_map, show (ps.zip qs)[i]? = some (ps[i], (key, v)) from List.getElem?_zip_eq_some.mpr ⟨ej, e'⟩]
      rfl
    · obtain ⟨t, rfl⟩ := h2
      exact mixKind_str _ _ _ _
  refine call_dict_pairs (PairArg.tuple a its.toArray Ts qs) (I.ok.hd hcalm) ⟨⟨o, n, hoa, e2, hod, e3⟩, hitem⟩ hhave (by rw [← hl]; exact hz) fun h' tk hd' hk => ?_
  have hm : (s.heap.objs.size == sysModules) = false := beq_eq_false_iff_ne.mpr (Nat.ne_of_gt I.big)
  have rel := KV.merge hkv (.nil : KV [] [])
  exact ⟨.ref s.heap.objs.size, _, I.laid (t' := tk) (fun b u e => hk b u List.not_mem_nil e) (Nat.le_refl _) (dk_new (by
    have := length_mergeK (ps.map fun p => ((.inr p.2.1 : L2.Key), V.int p.2.2)) []
    rw [List.length_map] at this
    exact Nat.le_trans this (by show 0 + ps.length ≤ sizeLine; omega)) hm rel hd'), rfl, q _ (I.hok.fresh (Nat.le_refl _))⟩
end
end SR
namespace Mt
open PySem PySem.Spec PyProof.Rows L2
def topS (i : Nat) : Stmt := PySem.Challenge.pw_meantrace_k79_whole_greatest.main.body.getD i (.Pass ⟨0, 0, 0, 0⟩)
abbrev s_worth_of : Stmt := topS 4
abbrev N_worth_of : List Str := ["worths", "shown", "table", "mark"]
theorem sc_worth_of : FnScope N_worth_of ["worths", "shown"] (defScope s_worth_of) := ⟨rfl, rfl, rfl, by decide +kernel, rfl, by decide +kernel, by decide +kernel⟩
abbrev s_greatest : Stmt := topS 6
abbrev N_greatest : List Str := ["chain", "worths", "n", "rows", "least", "_", "most", "worth", "target", "row"]
theorem sc_greatest : FnScope N_greatest ["chain", "worths", "n"] (defScope s_greatest) := ⟨rfl, rfl, rfl, by decide +kernel, rfl, by decide +kernel, by decide +kernel⟩
abbrev s_worth_rows : Stmt := topS 7
abbrev N_worth_rows : List Str := ["chain", "worths", "_", "shown", "target", "row"]
theorem sc_worth_rows : FnScope N_worth_rows ["chain", "worths"] (defScope s_worth_rows) := ⟨rfl, rfl, rfl, by decide +kernel, rfl, by decide +kernel, by decide +kernel⟩
abbrev s_walk : Stmt := topS 9
abbrev N_walk : List Str := ["chain", "tape", "ticks", "rows", "state", "read", "told", "_", "digits", "shown"]
theorem sc_walk : FnScope N_walk ["chain", "tape", "ticks"] (defScope s_walk) := ⟨rfl, rfl, rfl, by decide +kernel, rfl, by decide +kernel, by decide +kernel⟩
abbrev s_branch_at : Stmt := topS 10
abbrev N_branch_at : List Str := ["row", "tape", "at", "branch"]
theorem sc_branch_at : FnScope N_branch_at ["row", "tape", "at"] (defScope s_branch_at) := ⟨rfl, rfl, rfl, by decide +kernel, rfl, by decide +kernel, by decide +kernel⟩
abbrev s__law_begin : Stmt := topS 12
abbrev N__law_begin : List Str := ["script", "cell"]
theorem sc__law_begin : FnScope N__law_begin ["script"] (defScope s__law_begin) := ⟨rfl, rfl, rfl, by decide +kernel, rfl, by decide +kernel, by decide +kernel⟩
abbrev s__law_draw : Stmt := topS 13
abbrev N__law_draw : List Str := ["d", "many", "found", "size", "cell"]
theorem sc__law_draw : FnScope N__law_draw ["d", "many"] (defScope s__law_draw) := ⟨rfl, rfl, rfl, by decide +kernel, rfl, by decide +kernel, by decide +kernel⟩
abbrev s__law_pick : Stmt := topS 14
abbrev N__law_pick : List Str := ["d", "row"]
theorem sc__law_pick : FnScope N__law_pick ["d", "row"] (defScope s__law_pick) := ⟨rfl, rfl, rfl, by decide +kernel, rfl, by decide +kernel, by decide +kernel⟩
abbrev s__law_pop : Stmt := topS 15
abbrev N__law_pop : List Str := ["d", "row"]
theorem sc__law_pop : FnScope N__law_pop ["d", "row"] (defScope s__law_pop) := ⟨rfl, rfl, rfl, by decide +kernel, rfl, by decide +kernel, by decide +kernel⟩
abbrev s__law_rare : Stmt := topS 16
abbrev N__law_rare : List Str := ["d", "many"]
theorem sc__law_rare : FnScope N__law_rare ["d", "many"] (defScope s__law_rare) := ⟨rfl, rfl, rfl, by decide +kernel, rfl, by decide +kernel, by decide +kernel⟩
abbrev s__law_pool : Stmt := topS 17
abbrev N__law_pool : List Str := ["text"]
theorem sc__law_pool : FnScope N__law_pool [] (defScope s__law_pool) := ⟨rfl, rfl, rfl, by decide +kernel, rfl, by decide +kernel, by decide +kernel⟩
abbrev s__law_is_int : Stmt := topS 18
abbrev N__law_is_int : List Str := ["thing"]
theorem sc__law_is_int : FnScope N__law_is_int ["thing"] (defScope s__law_is_int) := ⟨rfl, rfl, rfl, by decide +kernel, rfl, by decide +kernel, by decide +kernel⟩
abbrev s__law_is_ints : Stmt := topS 19
abbrev N__law_is_ints : List Str := ["row", "part"]
theorem sc__law_is_ints : FnScope N__law_is_ints ["row"] (defScope s__law_is_ints) := ⟨rfl, rfl, rfl, by decide +kernel, rfl, by decide +kernel, by decide +kernel⟩
abbrev s__law_words : Stmt := topS 20
abbrev N__law_words : List Str := ["d", "base", "many", "words", "k", "at", "word", "digit"]
theorem sc__law_words : FnScope N__law_words ["d", "base", "many"] (defScope s__law_words) := ⟨rfl, rfl, rfl, by decide +kernel, rfl, by decide +kernel, by decide +kernel⟩
abbrev s__law_worth : Stmt := topS 21
abbrev N__law_worth : List Str := ["worths", "shown", "found", "mark", "worth", "one"]
theorem sc__law_worth : FnScope N__law_worth ["worths", "shown"] (defScope s__law_worth) := ⟨rfl, rfl, rfl, by decide +kernel, rfl, by decide +kernel, by decide +kernel⟩
abbrev s__law_leaves : Stmt := topS 22
abbrev N__law_leaves : List Str := ["chain", "n", "most", "found", "step", "fresh", "digits", "shown", "state", "more", "marks", "there"]
theorem sc__law_leaves : FnScope N__law_leaves ["chain", "n", "most"] (defScope s__law_leaves) := ⟨rfl, rfl, rfl, by decide +kernel, rfl, by decide +kernel, by decide +kernel⟩
abbrev s__law_wide_shown : Stmt := topS 23
abbrev N__law_wide_shown : List Str := ["d", "marks", "k"]
theorem sc__law_wide_shown : FnScope N__law_wide_shown ["d", "marks"] (defScope s__law_wide_shown) := ⟨rfl, rfl, rfl, by decide +kernel, rfl, by decide +kernel, by decide +kernel⟩
abbrev s__law_wide_chain : Stmt := topS 24
abbrev N__law_wide_chain : List Str := ["d", "base", "states", "marks", "rows", "s", "row", "word"]
theorem sc__law_wide_chain : FnScope N__law_wide_chain ["d", "base", "states", "marks"] (defScope s__law_wide_chain) := ⟨rfl, rfl, rfl, by decide +kernel, rfl, by decide +kernel, by decide +kernel⟩
abbrev s__law_rich_chain : Stmt := topS 25
abbrev N__law_rich_chain : List Str := ["d", "marks", "most", "base", "states", "chain", "rows", "s", "row", "digits", "shown", "there"]
theorem sc__law_rich_chain : FnScope N__law_rich_chain ["d", "marks", "most"] (defScope s__law_rich_chain) := ⟨rfl, rfl, rfl, by decide +kernel, rfl, by decide +kernel, by decide +kernel⟩
abbrev s__law_drawn_worths : Stmt := topS 26
abbrev N__law_drawn_worths : List Str := ["d", "marks", "found", "mark", "way"]
theorem sc__law_drawn_worths : FnScope N__law_drawn_worths ["d", "marks"] (defScope s__law_drawn_worths) := ⟨rfl, rfl, rfl, by decide +kernel, rfl, by decide +kernel, by decide +kernel⟩
abbrev s__law_extremes : Stmt := topS 27
abbrev N__law_extremes : List Str := ["chain", "worths", "most", "found", "rows", "step", "fresh", "here", "digits", "shown", "there", "size", "low", "high"]
theorem sc__law_extremes : FnScope N__law_extremes ["chain", "worths", "most"] (defScope s__law_extremes) := ⟨rfl, rfl, rfl, by decide +kernel, rfl, by decide +kernel, by decide +kernel⟩
abbrev s__law_over_leaves : Stmt := topS 28
abbrev N__law_over_leaves : List Str := ["chain", "worths", "n", "leaves", "sums", "digits", "rows", "state", "shown"]
theorem sc__law_over_leaves : FnScope N__law_over_leaves ["chain", "worths", "n"] (defScope s__law_over_leaves) := ⟨rfl, rfl, rfl, by decide +kernel, rfl, by decide +kernel, by decide +kernel⟩
abbrev s__law_told : Stmt := topS 29
abbrev N__law_told : List Str := ["chain", "worths", "n", "due", "told"]
theorem sc__law_told : FnScope N__law_told ["chain", "worths", "n", "due"] (defScope s__law_told) := ⟨rfl, rfl, rfl, by decide +kernel, rfl, by decide +kernel, by decide +kernel⟩
abbrev s__law_walked : Stmt := topS 30
abbrev N__law_walked : List Str := ["d", "chain", "worths", "n", "due", "tape", "k", "told", "size", "shown"]
theorem sc__law_walked : FnScope N__law_walked ["d", "chain", "worths", "n", "due"] (defScope s__law_walked) := ⟨rfl, rfl, rfl, by decide +kernel, rfl, by decide +kernel, by decide +kernel⟩
abbrev s_law : Stmt := topS 31
abbrev N_law : List Str := ["script", "d", "names", "marks", "k", "chain", "worths", "most", "rows", "n", "due", "other", "mark", "worth"]
theorem sc_law : FnScope N_law ["script"] (defScope s_law) := ⟨rfl, rfl, rfl, by decide +kernel, rfl, by decide +kernel, by decide +kernel⟩
structure Txt (K : PySem.W.Frag) (mg : Str → Option Value) : Prop where
  b_int : mg "int" = none
  b_abs : mg "abs" = none
  b_len : mg "len" = none
  b_isinstance : mg "isinstance" = none
  b_bool : mg "bool" = none
  b_tuple : mg "tuple" = none
  b_list : mg "list" = none
  b_range : mg "range" = none
  b_sum : mg "sum" = none
  b_all : mg "all" = none
  b_sorted : mg "sorted" = none
  b_min : mg "min" = none
  b_max : mg "max" = none
  b_dict : mg "dict" = none
theorem upd_upd {H : Hp} {p : Addr} {a b : HO} : upd (upd H p a) p b = upd H p b := by
  funext x
  unfold upd
  split <;> rfl
theorem take_map_succ {α β : Type} {f : α → β} {l : List α} {i : Nat} {c : α} (h : l[i]? = some c) : (l.take i).map f ++ [f c] = (l.take (i + 1)).map f := by
  rw [List.take_add_one, h, List.map_append]
  rfl
theorem divW_of {n : Int} (h : 0 < n) (h2 : n < 2 ^ 64) : CDivW 0 n := wide_div h (b := 64) (by omega) (by decide) (by decide)
theorem getV {ns : List Int} {i : Nat} {x : V} (h : (ns.map V.int)[i]? = some x) : ∃ z, x = .int z ∧ ns[i]? = some z := by
  rw [List.getElem?_map] at h
  cases e : ns[i]? with
  | none =>
    rw [e] at h
    cases h
  | some z =>
    rw [e] at h
    exact ⟨z, (Option.some.inj h).symm, rfl⟩
def spBegin (K : PySem.W.Frag) : Sp := fun vs H Q _ => ∃ (a : Addr) (ns : List Int), vs = [.ref a] ∧ SqL K H a (ns.map V.int) ∧ ns.length ≤ 63 ∧ ∀ S D H', Same H H' → H D = none → DrawAt S D H' → Q (.ref D) H'
/-- a text or a list, what it holds -/
def Row (K : PySem.W.Frag) (H : Hp) (v : V) (xs : List V) : Prop := (∃ z : Str, v = .str z ∧ xs = z.cps.toList.map fun c => .str ⟨#[c]⟩) ∨ (∃ p, v = .ref p ∧ SqL K H p xs) ∨ ∃ p, v = .ref p ∧ SqT K H p xs
def spPick (K : PySem.W.Frag) : Sp := fun vs H Q _ => ∃ (S D : Addr) (r : V) (xs : List V), vs = [.ref D, r] ∧ DrawAt S D H ∧ (∀ H', Go S D H H' → Row K H' r xs) ∧ 0 < xs.length ∧ xs.length ≤ 100000 ∧ ∀ H' x, x ∈ xs → Go S D H H' → Q x H'

theorem same_new {H : Hp} {p : Addr} {o : HO} (h : H p = none) : Same H (upd H p o) := fun b x e => by
  rw [upd_ne (ne_of_none e h)]
  exact e
/-- a change at a place that H does not know -/
theorem same_mut {H H' : Hp} {p : Addr} {o : HO} (s : Same H H') (h : H p = none) : Same H (upd H' p o) := fun b u e => by
  rw [upd_ne (ne_of_none e h)]
  exact s b u e
theorem iteNT {A B : Prop} (h : B) : if (!true) = true then A else B := iteF h
theorem line5 {n : Nat} (h : n ≤ 100000) : n ≤ sizeLine := Nat.le_trans h (by decide)
theorem line6 {n : Nat} (h : n < 100000) : n < sizeLine := Nat.lt_of_lt_of_le h (by decide)
/-! ### data as it stands in the heap -/
def KeepT (H H' : Hp) : Prop := ∀ p xs, Rd H p (.tup xs) → Rd H' p (.tup xs)
theorem KeepT.of_same {H H' : Hp} (s : Same H H') : KeepT H H' := fun p xs h => by
  rcases h with h | ⟨o, h⟩
  · exact .inl (s _ _ h)
  · exact .inr ⟨o, s _ _ h⟩
theorem KeepT.trans {H H1 H2 : Hp} (a : KeepT H H1) (b : KeepT H1 H2) : KeepT H H2 := fun p xs h => b p xs (a p xs h)
mutual
def noL : PyData → Bool
  | .list _ => false
  | .dict _ => false
  | .tuple ds => noLs ds
  | _ => true
def noLs : List PyData → Bool
  | [] => true
  | d :: ds => noL d && noLs ds
end
theorem sqt_keep {K : PySem.W.Frag} {H H' : Hp} {a : Addr} {xs : List V} (k : KeepT H H') (h : SqT K H a xs) : SqT K H' a xs := by
  rcases h with h | h
  · exact .inl (k _ _ h)
  · exact .inr h
mutual
theorem dp_keep {K : PySem.W.Frag} {H H' : Hp} (k : KeepT H H') : ∀ (d : PyData) (v : V), noL d = true → Dp K H v d → Dp K H' v d
  | .none, _, _, h => by
    cases h
    exact .non
  | .bool b, _, _, h => by
    cases h
    exact .bl b
  | .int i, _, _, h => by
    cases h
    exact .int i
  | .str x, _, _, h => by
    cases h
    exact .str x
  | .list ds, _, n, _ => by
    have n2 : false = true := n
    cases n2
  | .dict ds, _, n, _ => by
    have n2 : false = true := n
    cases n2
  | .tuple ds, _, n, h => by
    cases h with
    | tup h1 h2 => exact .tup (sqt_keep k h1) (dpA_keep k ds _ n h2)
theorem dpA_keep {K : PySem.W.Frag} {H H' : Hp} (k : KeepT H H') : ∀ (ds : List PyData) (xs : List V), noLs ds = true → DpAll K H xs ds → DpAll K H' xs ds
  | [], _, _, h => by
    cases h
    exact .nil
  | d :: ds, _, n, h => by
    cases h with
    | cons h1 h2 =>
      have n2 : (noL d && noLs ds) = true := n
      rw [Bool.and_eq_true] at n2
      exact .cons (dp_keep k d _ n2.1 h1) (dpA_keep k ds _ n2.2 h2)
end
theorem dp_tup {K : PySem.W.Frag} {H : Hp} {v : V} {ds : List PyData} (h : Dp K H v (.tuple ds)) : ∃ a xs, v = .ref a ∧ SqT K H a xs ∧ DpAll K H xs ds := by
  cases h with
  | tup h1 h2 => exact ⟨_, _, rfl, h1, h2⟩
theorem dp_str {K : PySem.W.Frag} {H : Hp} {v : V} {z : Str} (h : Dp K H v (.str z)) : v = .str z := by
  cases h
  rfl
theorem dp_int {K : PySem.W.Frag} {H : Hp} {v : V} {z : Int} (h : Dp K H v (.int z)) : v = .int z := by
  cases h
  rfl
theorem dp_non {K : PySem.W.Frag} {H : Hp} {v : V} (h : Dp K H v .none) : v = .non := by
  cases h
  rfl
theorem dpA_nil {K : PySem.W.Frag} {H : Hp} {xs : List V} (h : DpAll K H xs []) : xs = [] := by
  cases h
  rfl
theorem dpA_cons {K : PySem.W.Frag} {H : Hp} {xs : List V} {d : PyData} {ds : List PyData} (h : DpAll K H xs (d :: ds)) : ∃ x r, xs = x :: r ∧ Dp K H x d ∧ DpAll K H r ds := by
  cases h with
  | cons h1 h2 => exact ⟨_, _, rfl, h1, h2⟩
theorem dpA_len {K : PySem.W.Frag} {H : Hp} : ∀ {ds : List PyData} {xs : List V}, DpAll K H xs ds → xs.length = ds.length
  | [], _, h => by rw [dpA_nil h]; rfl
  | d :: ds, _, h => by
    obtain ⟨x, r, rfl, _, h2⟩ := dpA_cons h
    rw [List.length_cons, List.length_cons, dpA_len h2]
theorem dpA_at {K : PySem.W.Frag} {H : Hp} : ∀ {ds : List PyData} {xs : List V} {i : Nat} {x : V}, DpAll K H xs ds → xs[i]? = some x → ∃ d, ds[i]? = some d ∧ Dp K H x d
  | [], _, i, x, h, e => by
    rw [dpA_nil h] at e
    simp at e
  | d :: ds, _, 0, x, h, e => by
    obtain ⟨y, r, rfl, h1, h2⟩ := dpA_cons h
    have e2 : y = x := Option.some.inj e
    subst e2
    exact ⟨d, rfl, h1⟩
  | d :: ds, _, i + 1, x, h, e => by
    obtain ⟨y, r, rfl, h1, h2⟩ := dpA_cons h
    obtain ⟨d', h3, h4⟩ := dpA_at (i := i) (x := x) h2 (by simpa using e)
    exact ⟨d', by simpa using h3, h4⟩
theorem noLs_map {α : Type} (f : α → PyData) : ∀ l : List α, (∀ x ∈ l, noL (f x) = true) → noLs (l.map f) = true
  | [], _ => rfl
  | x :: r, h => by
    show (noL (f x) && noLs (r.map f)) = true
    rw [h x List.mem_cons_self, noLs_map f r fun y hy => h y (List.mem_cons_of_mem _ hy)]
    rfl
theorem keepT_new {H : Hp} {L : Addr} {o : HO} (h : H L = none) : KeepT H (upd H L o) := KeepT.of_same (same_new h)
theorem ixT {X : Cx} {K : PySem.W.Frag} (h : X.K = K) : IxR X (rIxT K) := h ▸ ix_tup
theorem isiT {X : Cx} {K : PySem.W.Frag} (h : X.K = K) : CallR X (.builtin "isinstance") (rIsi K) := h ▸ call_isi
theorem map_at {α : Type} {f : α → PyData} {l : List α} {i : Nat} {d : PyData} (h : (l.map f)[i]? = some d) : ∃ x, l[i]? = some x ∧ f x = d := by
  rw [List.getElem?_map] at h
  cases e : l[i]? with
  | none =>
    rw [e] at h
    cases h
  | some x =>
    rw [e] at h
    exact ⟨x, rfl, Option.some.inj h⟩
theorem dpA_snoc {K : PySem.W.Frag} {H : Hp} : ∀ {ds : List PyData} {xs : List V} {x : V} {d : PyData}, DpAll K H xs ds → Dp K H x d → DpAll K H (xs ++ [x]) (ds ++ [d])
  | [], _, _, _, h, hx => by
    rw [dpA_nil h]
    exact .cons hx .nil
  | d0 :: ds, _, _, _, h, hx => by
    obtain ⟨y, r, rfl, h1, h2⟩ := dpA_cons h
    exact .cons h1 (dpA_snoc h2 hx)
theorem sqt_ty {K : PySem.W.Frag} {H : Hp} {a : Addr} {xs : List V} (h : SqT K H a xs) : TyX K H (.ref a) (.type "tuple") := by
  rcases h with (h | ⟨o, h⟩) | ⟨o, its, n, hk, hc, _⟩
  · exact .base (.tup h)
  · exact .fTuple h
  · exact .kTuple hk hc
theorem same_l {K : PySem.W.Frag} {H H' : Hp} {a : Addr} {xs : List V} (e : Same H H') (h : SqL K H a xs) : SqL K H' a xs := e.seq h
theorem same_t {K : PySem.W.Frag} {H H' : Hp} {a : Addr} {xs : List V} (e : Same H H') (h : SqT K H a xs) : SqT K H' a xs := by
  rcases h with (h | ⟨o, h⟩) | h
  · exact .inl (.inl (e _ _ h))
  · exact .inl (.inr ⟨o, e _ _ h⟩)
  · exact .inr h
theorem Paired.at {α β : Type} {R : α → β → Prop} : ∀ {xs : List α} {ys : List β} {i : Nat} {x : α}, Paired R xs ys → xs[i]? = some x → ∃ y, ys[i]? = some y ∧ R x y
  | _, _, _, _, .nil, e => by simp at e
  | _, _, 0, _, .cons r _, e => by
    have e : _ = _ := Option.some.inj e
    subst e
    exact ⟨_, rfl, r⟩
  | _, _, i + 1, x, .cons _ t, e => by
    obtain ⟨y, h1, h2⟩ := Paired.at (i := i) (x := x) t (by simpa using e)
    exact ⟨y, by simpa using h1, h2⟩
/-! ### promises -/
def spIsInt : Sp := fun vs H Q _ => ∃ i : Int, vs = [.int i] ∧ Q (.bl true) H
def spIsInts (K : PySem.W.Frag) : Sp := fun vs H Q _ => ∃ (p : Addr) (ns : List Int), vs = [.ref p] ∧ H p = some (.tup (ns.map V.int)) ∧ ns.length ≤ 100 ∧ ∀ H', Same H H' → Q (.bl true) H'
def spLaw (K : PySem.W.Frag) : Sp := fun vs H Q _ => ∃ (a : Addr) (ns : List Int), vs = [.ref a] ∧ SqL K H a (ns.map V.int) ∧ ns.length ≤ 63 ∧ ∀ H', Q (.bl true) H'
theorem all_true {α : Type} (l : List α) : (l.map fun _ => true).all id = true := by
  rw [List.all_map]
  exact List.all_eq_true.mpr fun _ _ => rfl
def NT (o : HO) : Prop := (∀ xs, o ≠ .tup xs) ∧ ∀ ob u, o ≠ .frz ob u
theorem nt_lst (l : List V) : NT (.lst l) := ⟨fun _ e => (nomatch e), fun _ _ e => (nomatch e)⟩
theorem nt_dk (l : List (Key × V)) : NT (.dK l) := ⟨fun _ e => (nomatch e), fun _ _ e => (nomatch e)⟩
theorem DrawAt.upd {S D L : Addr} {H : Hp} {o : HO} (d : DrawAt S D H) (n1 : L ≠ D) (n2 : L ≠ S) : DrawAt S D (upd H L o) := by
  obtain ⟨cs, h1⟩ := d.cells
  obtain ⟨i, r, c, h0, h2⟩ := d.at_
  exact ⟨d.ne, ⟨cs, by rw [upd_ne n2.symm]; exact h1⟩, ⟨i, r, c, h0, by rw [upd_ne n1.symm]; exact h2⟩⟩
/-- the draws, and one thing F that may change -/
structure StF (S D F : Addr) (H : Hp) : Prop where
  dr : DrawAt S D H
  nS : F ≠ S
  fl : ∃ o, H F = some o ∧ NT o
def GoL (S D F : Addr) (H H' : Hp) : Prop := StF S D F H' ∧ ∀ b o, H b = some o → b ≠ D → b ≠ F → H' b = some o
section
variable {S D F L p : Addr} {H H1 H2 H' : Hp} {o : HO} {K : PySem.W.Frag}
theorem StF.of_draw (d : DrawAt S D H) : StF S D D H := ⟨d, d.ne.symm, let ⟨_, _, _, _, h⟩ := d.at_; ⟨_, h, nt_lst _⟩⟩
theorem StF.free (st : StF S D F H) (h : H p = none) : p ≠ D ∧ p ≠ S ∧ p ≠ F := by
  obtain ⟨o, hF, _⟩ := st.fl
  exact ⟨(st.dr.free h).1, (st.dr.free h).2, (ne_of_none hF h).symm⟩
theorem GoL.refl (st : StF S D F H) : GoL S D F H H := ⟨st, fun _ _ h _ _ => h⟩
theorem GoL.trans (a : GoL S D F H H1) (b : GoL S D F H1 H2) : GoL S D F H H2 := ⟨b.1, fun x o h n m => b.2 x o (a.2 x o h n m) n m⟩
theorem GoL.of_go (st : StF S D F H) (g : Go S D H H') : GoL S D F H H' := by
  refine ⟨⟨g.1, st.nS, ?_⟩, fun b o h n _ => g.2 b o h n⟩
  obtain ⟨o, hF, nt⟩ := st.fl
  by_cases e : F = D
  · rw [e]
    obtain ⟨_, _, _, _, h⟩ := g.1.at_
    exact ⟨_, h, nt_lst _⟩
  · exact ⟨o, g.2 F _ hF e, nt⟩
theorem GoL.to_go (g : GoL S D D H H') : Go S D H H' := ⟨g.1.dr, fun b o h n => g.2 b o h n n⟩
theorem GoL.mut (st : StF S D F H) (g : GoL S D F H H') (h : H L = none) : GoL S D F H (upd H' L o) := by
  obtain ⟨n1, n2, n3⟩ := st.free h
  obtain ⟨u, hF, nt⟩ := g.1.fl
  exact ⟨⟨g.1.dr.upd n1 n2, st.nS, ⟨u, by rw [upd_ne n3.symm]; exact hF, nt⟩⟩, fun b v hb m1 m2 => by
    rw [upd_ne (ne_of_none hb h)]
    exact g.2 b v hb m1 m2⟩
theorem GoL.new (st : StF S D F H) (h : H p = none) : GoL S D F H (upd H p o) := GoL.mut st (GoL.refl st) h
theorem GoL.setF (nD : F ≠ D) (nt : NT o) (g : GoL S D F H H') : GoL S D F H (upd H' F o) :=
  ⟨⟨g.1.dr.upd nD g.1.nS, g.1.nS, ⟨o, upd_same, nt⟩⟩, fun b v hb m1 m2 => by
    rw [upd_ne m2]
    exact g.2 b v hb m1 m2⟩
theorem GoL.back (st : StF S D F H) (g : GoL S D F H H') (h : H' p = none) : H p = none := by
  cases q : H p with
  | none => rfl
  | some u =>
    obtain ⟨n1, n2, n3⟩ := g.1.free h
    rw [g.2 p u q n1 n3] at h
    cases h
theorem nt_not {xs : List V} (nt : NT o) (h : H p = some o) (r : Rd H L (.tup xs)) : L ≠ p := fun e => by
  subst e
  rcases r with r | ⟨ob, r⟩
  · rw [h] at r
    exact nt.1 _ (Option.some.inj r)
  · rw [h] at r
    exact nt.2 _ _ (Option.some.inj r)
theorem GoL.keepT (st : StF S D F H) (g : GoL S D F H H') : KeepT H H' := fun p xs r => by
  obtain ⟨_, _, _, _, hD⟩ := st.dr.at_
  obtain ⟨o, hF, nt⟩ := st.fl
  have n1 := nt_not (nt_lst _) hD r
  have n2 := nt_not nt hF r
  rcases r with r | ⟨o, r⟩
  · exact .inl (g.2 _ _ r n1 n2)
  · exact .inr ⟨o, g.2 _ _ r n1 n2⟩
theorem Go.keepT (d : DrawAt S D H) (g : Go S D H H') : KeepT H H' := GoL.keepT (StF.of_draw d) (GoL.of_go (StF.of_draw d) g)
theorem keepT_nt {o2 : HO} (nt : NT o2) (h : H L = some o2) : KeepT H (upd H L o) := fun p xs r => by
  have n := nt_not nt h r
  rcases r with r | ⟨o, r⟩
  · exact .inl (by rw [upd_ne n]; exact r)
  · exact .inr ⟨o, by rw [upd_ne n]; exact r⟩
theorem noLs_of {α : Type} {f : α → PyData} (h : ∀ a, noL (f a) = true) (l : List α) : noLs (l.map f) = true := noLs_map f l fun a _ => h a
end
/-- a list that is being filled -/
structure BL (K : PySem.W.Frag) (S D F L : Addr) (H0 H : Hp) {α : Type} (f : α → PyData) (as : List α) : Prop where
  g : GoL S D F H0 H
  l : ∃ zs, H L = some (.lst zs) ∧ DpAll K H zs (as.map f)
section
variable {S D F L : Addr} {H0 H H1 : Hp} {K : PySem.W.Frag} {α : Type} {f : α → PyData} {as : List α}
theorem BL.nil (st : StF S D F H0) (h : H0 L = none) : BL K S D F L H0 (upd H0 L (.lst [])) f [] := ⟨GoL.new st h, [], upd_same, .nil⟩
theorem BL.go (st : StF S D F H0) (hL : H0 L = none) (hn : ∀ a, noL (f a) = true) (b : BL K S D F L H0 H f as) (g : GoL S D F H H1) : BL K S D F L H0 H1 f as := by
  obtain ⟨zs, h1, h2⟩ := b.l
  obtain ⟨n1, n2, n3⟩ := st.free hL
  exact ⟨b.g.trans g, zs, g.2 _ _ h1 n1 n3, dpA_keep (GoL.keepT b.g.1 g) _ _ (noLs_of hn as) h2⟩
theorem BL.add (st : StF S D F H0) (hL : H0 L = none) (hn : ∀ a, noL (f a) = true) {a : α} {x : V} {zs : List V} (g : GoL S D F H0 H) (h1 : H L = some (.lst zs)) (h2 : DpAll K H zs (as.map f)) (hx : Dp K H x (f a)) :
    BL K S D F L H0 (upd H L (.lst (zs ++ [x]))) f (as ++ [a]) := by
  have k := keepT_nt (o := .lst (zs ++ [x])) (nt_lst _) h1
  refine ⟨GoL.mut st g hL, zs ++ [x], upd_same, ?_⟩
  rw [List.map_append]
  exact dpA_snoc (dpA_keep k _ _ (noLs_of hn as) h2) (dp_keep k _ _ (hn a) hx)
theorem BL.len (b : BL K S D F L H0 H f as) : ∃ zs, H L = some (.lst zs) ∧ DpAll K H zs (as.map f) ∧ zs.length = as.length := by
  obtain ⟨zs, h1, h2⟩ := b.l
  exact ⟨zs, h1, h2, by have := dpA_len h2; rw [List.length_map] at this; exact this⟩
theorem GoL.drop {H' : Hp} (g : GoL S D F H H') (h : H F = none) : Go S D H H' := ⟨g.1.dr, fun b o hb n => g.2 b o hb n (ne_of_none hb h)⟩
end
theorem snoc_str (l : List Str) (z : Str) : l.map V.str ++ [V.str z] = (l ++ [z]).map V.str := by
  rw [List.map_append]
  rfl
theorem int_noL (p : Int) : noL (.int p) = true := rfl
theorem str_noL (p : Str) : noL (.str p) = true := rfl
/-! ### promises of the small draws -/
def spPop : Sp := fun vs H Q _ => ∃ (S D p : Addr) (xs : List V), vs = [.ref D, .ref p] ∧ DrawAt S D H ∧ p ≠ D ∧ H p = some (.lst xs) ∧ 0 < xs.length ∧ xs.length ≤ 1000 ∧ ∀ (H1 : Hp) (j : Nat) (x : V), Go S D H H1 → xs[j]? = some x → Q x (upd H1 p (.lst (xs.eraseIdx j)))
def spRare : Sp := fun vs H Q _ => ∃ (S D : Addr) (m : Int), vs = [.ref D, .int m] ∧ 0 < m ∧ m < 1000 ∧ DrawAt S D H ∧ ∀ H' b, Go S D H H' → Q (.bl b) H'
def spShuf (K : PySem.W.Frag) : Sp := fun vs H Q _ => ∃ (S D p : Addr) (xs : List V), vs = [.ref D, .ref p] ∧ DrawAt S D H ∧ SqL K H p xs ∧ xs.length ≤ 1000 ∧
  ∀ (H' : Hp) (q : Addr) (ys : List V), Go S D H H' → H q = none → H' q = some (.lst ys) → ys.length = xs.length → (∀ y ∈ ys, y ∈ xs) → Q (.ref q) H'
abbrev PA : Str := "a b2 sum left r k0 carry z9z full tail n m8 aa busy cnt p t4 even2 ab1 head u v2 w lowest high mid "
abbrev PB : Str := "s t e f g h i j k x y q7 deep turn gate l5 next1 o c0 d two zz1 near far9 last ring2 "
abbrev PC : Str := "aaaaaaa8 b c1 top2 net3 row col7 v"
def POOL : List Str := Txt.split (PA ++ PB ++ PC) " "
theorem pool_len : POOL.length = 60 := by decide +kernel
def spPool : Sp := fun vs H Q _ => vs = [] ∧ ∀ p, H p = none → Q (.ref p) (upd H p (.lst (POOL.map V.str)))
section
variable {P : Program} {w : World} {K : PySem.W.Frag} {mg : Str → Option Value} {base : Heap}
theorem ok__law_draw (T : Txt K mg) {f : Addr} {fd : FuncData} (F : FnP K "_law_draw" s__law_draw f fd) : FnOk P w K mg base CX0 1 f fd ["d", "many"] spDraw := by
  refine F.ok sc__law_draw (fun vs H Q E h => ?_) (fun cdv A outer s H vs Q E hr h => ?_)
  · obtain ⟨S, D, m, rfl, _⟩ := h
    rfl
  · obtain ⟨S, D, m, rfl, hm, d, q⟩ := h
    obtain ⟨cs, hS⟩ := id d.cells
    obtain ⟨i, r, c, h0, hD⟩ := id d.at_
    have hm0 : 0 < m := hm.1
    refine ⟨_, PSs.nox (pss_cons (ps_if (pt_cmpR op_gt (pe_ix ix_list (pv 0) pe_int (fun _ _ => rfl)) pe_int (nomark _)) (pss_cons (ps_set (i := 2) sc__law_draw.nd rfl (Or.inl rfl) (pe_ix ix_list (pv 0) pe_int (fun _ _ => rfl)))
      (pss_cons (ps_asg (pe_op op_fdivW (pv 2) (pv 1)) (pg_sub (pv 0) pe_int set_list))
      (pss_one (ps_ret (pe_op op_mod (pe_callTy call_int1 (by rfl) T.b_int (by decide +kernel) (pa_cons (pv 2) pa_nil)) (pv 1)))))) pss_nil)
      (pss_cons (ps_set (i := 3) sc__law_draw.nd rfl (Or.inl rfl) pe_int)
      (Evl.pss_cut (ps_if (pt_cmpR op_lt (pe_ix ix_list (pv 0) pe_int (fun _ _ => rfl)) (pe_callB call_len (by rfl) T.b_len (by decide +kernel) (pa_cons (pe_ix ix_list (pv 0) pe_int (fun _ _ => rfl)) pa_nil)) (nomark _)) (pss_cons (ps_set (i := 4) sc__law_draw.nd rfl (Or.inl rfl) (pe_ix ix_list (pe_ix ix_list (pv 0) pe_int (fun _ _ => rfl)) (pe_ix ix_list (pv 0) pe_int (fun _ _ => rfl)) (fun _ _ => rfl)))
      (pss_one (ps_set (i := 3) sc__law_draw.nd rfl (Or.inl rfl) (pe_op op_add (pe_op op_mul pe_int (pe_callB call_abs (by rfl) T.b_abs (by decide +kernel) (pa_cons (pv 4) pa_nil))) (pe_callTy call_int1 (by rfl) T.b_int (by decide +kernel) (pa_cons (pe_cmpR op_lt (pv 4) pe_int (nomark _)) pa_nil)))))) pss_nil)
      (pss_cons (ps_augS (pv 0) pe_int get_list pe_int ip_add set_list)
      (pss_cons (ps_if (pt_cmpR op_ge (pv 3) (pe_op op_mul pe_int (pe_op op_pow pe_int pe_int)) (nomark _)) (pss_cons (ps_set (i := 2) sc__law_draw.nd rfl (Or.inl rfl) (pe_op op_mod (pe_callTy call_int1 (by rfl) T.b_int (by decide +kernel) (pa_cons (pe_op op_fdivW (pv 3) pe_int) pa_nil)) (pe_op op_shl pe_int pe_int)))
      (pss_cons (ps_asg (pe_op op_fdivW (pv 2) (pv 1)) (pg_sub (pv 0) pe_int set_list))
      (pss_one (ps_ret (pe_op op_mod (pe_callTy call_int1 (by rfl) T.b_int (by decide +kernel) (pa_cons (pv 2) pa_nil)) (pv 1)))))) pss_nil)
      (pss_cons (ps_asg (pe_op op_mod (pe_callTy call_int1 (by rfl) T.b_int (by decide +kernel) (pa_cons (pe_op op_add (pe_op op_add (pe_op op_add (pe_op op_mul (pe_ix ix_list (pv 0) pe_int (fun _ _ => rfl)) pe_int) (pe_op op_mul (pe_op op_mod (pe_callTy call_int1 (by rfl) T.b_int (by decide +kernel) (pa_cons (pv 3) pa_nil)) pe_int) pe_int)) (pe_op op_mul (pe_ix ix_list (pv 0) pe_int (fun _ _ => rfl)) pe_int)) pe_int) pa_nil)) pe_int) (pg_sub (pv 0) pe_int set_list))
      (pss_one (ps_ret (pe_op op_mod (pe_callTy call_int1 (by rfl) T.b_int (by decide +kernel) (pa_cons (pe_op op_fdivW (pe_ix ix_list (pv 0) pe_int (fun _ _ => rfl)) pe_int) pa_nil)) (pv 1)))))))))), ?_⟩
    refine ⟨_, rfl, D, _, _, _, rfl, rfl, SqL.of hD, atI_nat (j := 2) rfl, _, _, rfl, rfl, _, rfl, ?_⟩
    refine ite2 (fun e => ?_) (fun e => ?_)
    · refine ⟨_, rfl, D, _, _, _, rfl, rfl, SqL.of hD, atI_nat (j := 2) rfl, ?_⟩
      refine ⟨_, rfl, _, rfl, _, _, rfl, rfl, hm, _, rfl, D, _, _, 2, rfl, rfl, hD, rfl, ?_⟩
      refine ⟨_, rfl, .inl ⟨_, rfl, _, rfl, _, _, rfl, rfl, hm0, ?_⟩⟩
      refine q _ _ (Int.emod_nonneg _ (by omega)) (Int.emod_lt_of_pos _ hm0) ⟨d.set h0, Keep.refl.set⟩
    · refine ⟨fun σ' H' => ∃ (z : Int) (x : Option V), σ' = [some (.ref D), some (.int m), none, some (.int z), x] ∧ H' = H, ?_, ?_⟩
      · refine ⟨_, rfl, D, _, _, _, rfl, rfl, SqL.of hD, atI_nat (j := 1) rfl, ?_⟩
        refine ⟨_, rfl, D, _, _, _, rfl, rfl, SqL.of hD, atI_nat (j := 0) rfl, _, _, rfl, .inl ⟨_, SqL.of hS, rfl⟩, _, _, rfl, rfl, _, rfl, ?_⟩
        refine ite2 (fun e1 => ?_) (fun e1 => ?_)
        · have e2 : i < ((cs.map V.int).length : Int) := of_decide_eq_true e1
          have e3 : i.toNat < (cs.map V.int).length := by omega
          have e4 : i.toNat < cs.length := by rw [List.length_map] at e3; exact e3
          have e5 : (cs.map V.int)[i.toNat]? = some (.int cs[i.toNat]) := by
            rw [List.getElem?_map, List.getElem?_eq_getElem e4]
            rfl
          have e6 : atI (cs.map V.int) i = some (.int cs[i.toNat]) := by
            have := atI_nat (xs := cs.map V.int) e5
            rw [show ((i.toNat : Nat) : Int) = i by omega] at this
            exact this
          refine ⟨_, rfl, D, _, _, _, rfl, rfl, SqL.of hD, atI_nat (j := 0) rfl, ?_⟩
          refine ⟨_, rfl, D, _, _, _, rfl, rfl, SqL.of hD, atI_nat (j := 1) rfl, ?_⟩
          refine ⟨S, _, _, _, rfl, rfl, SqL.of hS, e6, ?_⟩
          refine ⟨_, rfl, _, rfl, _, _, rfl, rfl, .inl ⟨by decide, by decide⟩, ?_⟩
          refine ⟨_, rfl, _, _, rfl, rfl, .inr ⟨_, rfl, _, _, rfl, rfl, ?_⟩⟩
          exact ⟨_, _, rfl, rfl⟩
        · exact ⟨_, _, rfl, rfl⟩
      · rintro σ' H' ⟨z, x, rfl, rfl⟩
        refine ⟨_, rfl, D, _, _, _, rfl, rfl, SqL.of hD, atI_nat (j := 1) rfl, ?_⟩
        refine ⟨_, _, rfl, rfl, D, _, _, 1, rfl, rfl, hD, rfl, ?_⟩
        have hD1 : (upd H' D (.lst [.ref S, .int (i + 1), .int r, .int c])) D = some (.lst [.ref S, .int (i + 1), .int r, .int c]) := upd_same
        have d1 : DrawAt S D (upd H' D (.lst [.ref S, .int (i + 1), .int r, .int c])) := d.set (by omega)
        refine ⟨_, rfl, _, _, rfl, rfl, ⟨by decide, by decide, by decide⟩, _, _, rfl, rfl, .inl ⟨by decide, by decide⟩, _, _, rfl, rfl, _, rfl, ?_⟩
        refine ite2 (fun e1 => ?_) (fun e1 => ?_)
        · refine ⟨_, rfl, _, _, rfl, rfl, ⟨by decide, by decide⟩, .inl ⟨_, rfl, _, _, rfl, rfl, ⟨by decide, by decide, by decide⟩, ?_⟩⟩
          refine ⟨_, _, rfl, rfl, ?_, ?_⟩
          · show (0 : Int) < 1 * 2 ^ (6000 : Int).toNat
            exact Int.mul_pos (by decide) (Int.pow_pos (by decide))
          · refine ⟨_, rfl, _, rfl, _, _, rfl, rfl, hm, _, rfl, D, _, _, 2, rfl, rfl, hD1, rfl, ?_⟩
            refine ⟨_, rfl, .inl ⟨_, rfl, _, rfl, _, _, rfl, rfl, hm0, ?_⟩⟩
            exact q _ _ (Int.emod_nonneg _ (by omega)) (Int.emod_lt_of_pos _ hm0) ⟨d1.set (by omega), Keep.refl.set.set⟩
        · refine ⟨_, rfl, D, _, _, _, rfl, rfl, SqL.of hD1, atI_nat (j := 3) rfl, _, _, rfl, rfl, .inr ⟨by decide, by decide⟩, ?_⟩
          refine ⟨_, rfl, .inl ⟨_, rfl, _, _, rfl, rfl, (by show (0 : Int) < 2147483629; decide), _, _, rfl, rfl, .inr ⟨by decide, by decide⟩, _, _, rfl, rfl, ?_⟩⟩
          refine ⟨_, rfl, D, _, _, _, rfl, rfl, SqL.of hD1, atI_nat (j := 1) rfl, _, _, rfl, rfl, .inr ⟨by decide, by decide⟩, _, _, rfl, rfl, _, _, rfl, rfl, .inl ⟨_, rfl, ?_⟩⟩
          refine ⟨_, _, rfl, rfl, (by show (0 : Int) < 2147483647; decide), _, rfl, D, _, _, 3, rfl, rfl, hD1, rfl, ?_⟩
          refine ⟨_, rfl, D, _, _, _, rfl, rfl, SqL.of upd_same, atI_nat (j := 3) rfl, _, _, rfl, rfl, ⟨by decide, by decide⟩, ?_⟩
          refine .inl ⟨_, rfl, _, rfl, _, _, rfl, rfl, hm0, ?_⟩
          exact q _ _ (Int.emod_nonneg _ (by omega)) (Int.emod_lt_of_pos _ hm0) ⟨d1.set (by omega), Keep.refl.set.set⟩
theorem ok__law_begin (T : Txt K mg) {f : Addr} {fd : FuncData} (F : FnP K "_law_begin" s__law_begin f fd) : FnOk P w K mg base CX0 1 f fd ["script"] (spBegin K) := by
  refine F.ok sc__law_begin (fun vs H Q E h => ?_) (fun cdv A outer s H vs Q E hr h => ?_)
  · obtain ⟨a, ns, rfl, _⟩ := h
    rfl
  · obtain ⟨a, ns, rfl, hS, hlen, q⟩ := h
    refine ⟨_, PSs.nox (pss_one (ps_ret (pe_lst (pa_cons (pe_lc (own := [("cell", 1)]) (g := (gName 1)) (tt := tYes) rfl sc__law_begin.nd (pi_list (pv 0)) (blkOk_by (N := N__law_begin) (sc := defScope s__law_begin) (by decide +kernel)) (fun _ _ _ _ _ => (pg_name (i := 1) sc__law_begin.nd rfl (Or.inl rfl))) (fun _ _ _ _ _ => pts_nil) (fun _ _ _ _ _ => (pe_callTy call_int1 (by rfl) T.b_int (by decide +kernel) (pa_cons (pv 1) pa_nil)))) (pa_cons pe_int (pa_cons pe_int (pa_cons pe_int pa_nil))))))), ?_⟩
    refine ⟨_, rfl, a, rfl, ⟨_, hS⟩, fun L hL => lc_list (xs := ns.map V.int) (fun i H' => H' = upd H L (.lst ((ns.take i).map V.int))) rfl (fun i H' _ e => ?_) ?_ ?_⟩
    · subst e
      exact (show Same H _ from fun b o h => by rw [upd_ne (ne_of_none h hL)]; exact h).seq hS
    · rintro i x H1 hi rfl
      obtain ⟨z, rfl, hz⟩ := getV hi
      refine ⟨rfl, _, rfl, .inl ⟨_, rfl, _, upd_same, ?_, ?_⟩⟩
      · rw [List.length_map, List.length_take]
        exact Nat.lt_of_le_of_lt (Nat.min_le_right _ _) (small1000 (by omega))
      · rw [upd_upd, take_map_succ (f := V.int) hz]
    · rintro H' rfl
      refine ⟨by show 4 ≤ sizeLine; decide, fun D hD => ?_⟩
      have nLD : D ≠ L := fun e => by
        rw [e, upd_same] at hD
        cases hD
      have hD0 : H D = none := by
        rw [upd_ne nLD] at hD
        exact hD
      refine q L D _ (fun b o h => ?_) hD0 ⟨fun e => nLD e.symm, ⟨ns, ?_⟩, ⟨0, 0, 7, by decide, upd_same⟩⟩
      · rw [upd_ne (ne_of_none h hD0), upd_ne (ne_of_none h hL)]
        exact h
      · rw [upd_ne (fun e => nLD e.symm), upd_same]
        rw [List.take_of_length_le (by rw [List.length_map]; exact Nat.le_refl _)]
theorem ok__law_pick (T : Txt K mg) (D__law_draw : Kept P w K mg base 1 "_law_draw" ["d", "many"] spDraw) {f : Addr} {fd : FuncData} (F : FnP K "_law_pick" s__law_pick f fd) : FnOk P w K mg base CX0 2 f fd ["d", "row"] (spPick K) := by
  refine F.ok sc__law_pick (fun vs H Q E h => ?_) (fun cdv A outer s H vs Q E hr h => ?_)
  · obtain ⟨S, D, r, xs, rfl, _⟩ := h
    rfl
  · obtain ⟨S, D, r, xs, rfl, d, hR, h0, h1, q⟩ := h
    refine ⟨_, PSs.nox (pss_one (ps_ret (pe_ix ix_seq (pv 1) (pe_d D__law_draw (hr.mono (by decide)) (by rfl) (pa_cons (pv 0) (pa_cons (pe_callB call_len (by rfl) T.b_len (by decide +kernel) (pa_cons (pv 1) pa_nil)) pa_nil))) (fun _ _ => rfl)))), ?_⟩
    refine ⟨r, rfl, _, rfl, _, rfl, r, xs.length, rfl, ?_, ?_⟩
    · rcases hR H (Go.refl d) with ⟨z, rfl, rfl⟩ | ⟨p, rfl, hp⟩ | ⟨p, rfl, hp⟩
      · refine ⟨?_, by simp [Str.length]⟩
        rw [List.length_map] at h1
        have : z.length = z.cps.toList.length := by simp [Str.length]
        rw [this]
        exact Nat.le_trans h1 (by decide)
      · exact .inl ⟨_, hp, rfl⟩
      · exact .inr ⟨_, hp, rfl⟩
    · refine ⟨S, D, _, rfl, divW_of (by omega) (by omega), d, fun H' v hv0 hv1 g => ?_⟩
      have hv : v.toNat < xs.length := by omega
      have e : ((v.toNat : Nat) : Int) = v := by omega
      have ex : xs[v.toNat]? = some xs[v.toNat] := List.getElem?_eq_getElem hv
      have ea : atI xs v = some xs[v.toNat] := by
        have := atI_nat (xs := xs) ex
        rw [e] at this
        exact this
      rcases hR H' g with ⟨z, rfl, rfl⟩ | ⟨p, rfl, hp⟩ | ⟨p, rfl, hp⟩
      · refine .inr (.inr ⟨z, v, z.cps.toList[v.toNat]'(by rw [List.length_map] at hv; exact hv), rfl, rfl, ?_, ?_, ?_⟩)
        · rw [List.length_map] at h1
          have : z.length = z.cps.toList.length := by simp [Str.length]
          rw [this]
          exact Nat.le_trans h1 (by decide)
        · have := atI_nat (xs := z.cps.toList) (List.getElem?_eq_getElem (show v.toNat < z.cps.toList.length by rw [List.length_map] at hv; exact hv))
          rw [e] at this
          exact this
        · refine q H' _ ?_ g
          exact List.mem_map_of_mem (List.getElem_mem _)
      · exact .inl ⟨p, xs, v, _, rfl, rfl, hp, ea, q H' _ (List.getElem_mem _) g⟩
      · exact .inr (.inl ⟨p, xs, v, _, rfl, rfl, hp, ea, q H' _ (List.getElem_mem _) g⟩)
theorem ok__law_pop (T : Txt K mg) (D__law_draw : Kept P w K mg base 1 "_law_draw" ["d", "many"] spDraw) {f : Addr} {fd : FuncData} (F : FnP K "_law_pop" s__law_pop f fd) : FnOk P w K mg base CX0 2 f fd ["d", "row"] spPop := by
  refine F.ok sc__law_pop (fun vs H Q E h => ?_) (fun cdv A outer s H vs Q E hr h => ?_)
  · obtain ⟨S, D, p, xs, rfl, _⟩ := h
    rfl
  · obtain ⟨S, D, p, xs, rfl, d, nD, hp, h0, h1, q⟩ := h
    refine ⟨_, PSs.nox (pss_one (ps_ret (pe_bm PySem.F.plainAttrs_list PySem.F.slot_list_pop PySem.F.type_list_pop mt_popAt (pv 1) (pa_cons (pe_d D__law_draw (hr.mono (by decide)) (by rfl) (pa_cons (pv 0) (pa_cons (pe_callB call_len (by rfl) T.b_len (by decide +kernel) (pa_cons (pv 1) pa_nil)) pa_nil))) pa_nil)))), ?_⟩
    refine ⟨_, rfl, .inl ⟨rfl, _, SqL.of hp⟩, _, rfl, _, rfl, _, _, rfl, .inl ⟨_, SqL.of hp, rfl⟩, S, D, _, rfl, divW_of (by omega) (by omega), d, fun H1 v v0 v1 g => ?_⟩
    have hv : v.toNat < xs.length := by omega
    have ex : xs[v.toNat]? = some xs[v.toNat] := List.getElem?_eq_getElem hv
    refine ⟨p, xs, v, v.toNat, _, rfl, rfl, g.2 _ _ hp nD, by omega, by omega, ?_, ex, q H1 _ _ g ex⟩
    exact seqIndex_of v0 (by omega)
theorem ok__law_rare (T : Txt K mg) (D__law_draw : Kept P w K mg base 1 "_law_draw" ["d", "many"] spDraw) {f : Addr} {fd : FuncData} (F : FnP K "_law_rare" s__law_rare f fd) : FnOk P w K mg base CX0 2 f fd ["d", "many"] spRare := by
  refine F.ok sc__law_rare (fun vs H Q E h => ?_) (fun cdv A outer s H vs Q E hr h => ?_)
  · obtain ⟨S, D, m, rfl, _⟩ := h
    rfl
  · obtain ⟨S, D, m, rfl, m0, m1, d, q⟩ := h
    refine ⟨_, PSs.nox (pss_one (ps_ret (pe_cmpR op_eq (pe_d D__law_draw (hr.mono (by decide)) (by rfl) (pa_cons (pv 0) (pa_cons (pv 1) pa_nil))) (pe_op op_fdivW (pv 1) pe_int) (nomark _)))), ?_⟩
    exact ⟨_, rfl, _, rfl, S, D, m, rfl, divW_of m0 (by omega), d, fun H1 v _ _ g => ⟨_, rfl, _, _, rfl, rfl, ⟨by decide, by decide⟩, rfl, q H1 _ g⟩⟩
theorem ok__law_pool (T : Txt K mg) {f : Addr} {fd : FuncData} (F : FnP K "_law_pool" s__law_pool f fd) : FnOk P w K mg base CX0 1 f fd [] spPool := by
  refine F.ok sc__law_pool (fun vs H Q E h => ?_) (fun cdv A outer s H vs Q E hr h => ?_)
  · obtain ⟨rfl, _⟩ := h
    rfl
  · obtain ⟨rfl, q⟩ := h
    refine ⟨_, PSs.nox (pss_cons (ps_set (i := 0) sc__law_pool.nd rfl (Or.inl rfl) pe_str)
      (pss_cons (ps_set (i := 0) sc__law_pool.nd rfl (Or.inl rfl) (pe_op op_add_str (pv 0) pe_str))
      (pss_one (ps_ret (pe_split (pe_op op_add_str (pv 0) pe_str) pe_str))))), ?_⟩
    exact ⟨_, rfl, _, _, rfl, rfl, by decide +kernel, _, rfl, _, _, rfl, rfl, by decide +kernel, ⟨_, rfl⟩, _, _, rfl, rfl, by decide +kernel, by decide +kernel, fun p hp => q p hp⟩
theorem ok__law_is_int (T : Txt K mg) {f : Addr} {fd : FuncData} (F : FnP K "_law_is_int" s__law_is_int f fd) : FnOk P w K mg base CX0 1 f fd ["thing"] spIsInt := by
  refine F.ok sc__law_is_int (fun vs H Q E h => ?_) (fun cdv A outer s H vs Q E hr h => ?_)
  · obtain ⟨p, rfl, _⟩ := h
    rfl
  · obtain ⟨i, rfl, q⟩ := h
    refine ⟨_, PSs.nox (pss_one (ps_ret (pe_and (pe_callB call_isi (by rfl) T.b_isinstance (by decide +kernel) (pa_cons (pv 0) (pa_cons (pe_bltn (v := .ty "int") (u := .type "int") (by rfl) T.b_int (by decide +kernel) rfl) pa_nil))) (pe_one (pe_not (pe_callB call_isi (by rfl) T.b_isinstance (by decide +kernel) (pa_cons (pv 0) (pa_cons (pe_bltn (v := .ty "bool") (u := .type "bool") (by rfl) T.b_bool (by decide +kernel) rfl) pa_nil)))))))), ?_⟩
    refine ⟨_, rfl, _, .ty "int", .type "int", .type "int", true, rfl, .ty _, .base (.int _), kit_ty (by decide +kernel), true, rfl, ?_⟩
    exact ⟨_, rfl, _, .ty "bool", .type "int", .type "bool", false, rfl, .ty _, .base (.int _), kit_ty (by decide +kernel), false, rfl, q⟩
theorem ok__law_is_ints (T : Txt K mg) (D__law_is_int : Kept P w K mg base 1 "_law_is_int" ["thing"] spIsInt) {f : Addr} {fd : FuncData} (F : FnP K "_law_is_ints" s__law_is_ints f fd) : FnOk P w K mg base CX0 2 f fd ["row"] (spIsInts K) := by
  refine F.ok sc__law_is_ints (fun vs H Q E h => ?_) (fun cdv A outer s H vs Q E hr h => ?_)
  · obtain ⟨p, ns, rfl, _⟩ := h
    rfl
  · obtain ⟨p, ns, rfl, hp, hl, q⟩ := h
    refine ⟨_, PSs.nox (pss_one (ps_ret (pe_and (pe_callB call_isi (by rfl) T.b_isinstance (by decide +kernel) (pa_cons (pv 0) (pa_cons (pe_bltn (v := .ty "tuple") (u := .type "tuple") (by rfl) T.b_tuple (by decide +kernel) rfl) pa_nil))) (pe_one (pe_callB (cr_all rfl) (by rfl) T.b_all (by decide +kernel) (pa_cons (pe_lc (own := [("part", 1)]) (g := (gName 1)) (tt := tYes) rfl sc__law_is_ints.nd (pi_tup (pv 0)) (blkOk_by (N := N__law_is_ints) (sc := defScope s__law_is_ints) (by decide +kernel)) (fun _ _ _ _ _ => (pg_name (i := 1) sc__law_is_ints.nd rfl (Or.inl rfl))) (fun _ _ _ _ _ => pts_nil) (fun _ _ _ _ _ => (pe_d D__law_is_int (hr.mono (by decide)) (by rfl) (pa_cons (pv 1) pa_nil)))) pa_nil)))))), ?_⟩
    refine ⟨_, rfl, _, .ty "tuple", .type "tuple", .type "tuple", true, rfl, .ty _, .base (.tup hp), kit_ty (by decide +kernel), true, rfl, ?_⟩
    refine ⟨_, rfl, p, rfl, ⟨_, SqT.of hp⟩, fun L hL => lc_tup (K := K) (a := p) (xs := ns.map V.int) (fun i H' => H' = upd H L (.lst ((ns.take i).map fun _ => .bl true))) rfl (fun i H' _ e => ?_) ?_ ?_⟩
    · subst e
      exact same_t (same_new hL) (SqT.of hp)
    · rintro i x H1 hi rfl
      obtain ⟨z, rfl, hz⟩ := getV hi
      refine ⟨rfl, _, rfl, z, rfl, _, upd_same, ?_, ?_⟩
      · rw [List.length_map, List.length_take]
        exact Nat.lt_of_le_of_lt (Nat.min_le_right _ _) (small1000 (by omega))
      · rw [upd_upd, take_map_succ (f := fun _ => V.bl true) hz]
    · rintro H' rfl
      rw [List.take_of_length_le (by rw [List.length_map]; exact Nat.le_refl _)]
      refine ⟨L, ns.map fun _ => true, rfl, SqL.of (by rw [upd_same, List.map_map]; rfl), ?_⟩
      rw [all_true]
      exact q _ (same_new hL)
end
end Mt

namespace Mt
open PySem PySem.Spec PyProof.Rows L2
theorem ixL {X : Cx} {K : PySem.W.Frag} (h : X.K = K) : IxR X (rIxL K) := h ▸ ix_list
theorem tupOfT {X : Cx} {K : PySem.W.Frag} (h : X.K = K) : CallR X (.type "tuple") (fun xs H Q => ∃ p ys, xs = [.ref p] ∧ ((SqL K H p ys ∧ ∀ l, H l = none → Q (.ref l) (upd H l (.tup ys))) ∨ (SqT K H p ys ∧ Q (.ref p) H))) := h ▸ call_tuple_of
theorem catA {X : Cx} {K : PySem.W.Frag} (h : X.K = K) : OpR X (binaryOp .Add) (rCatA K) := h ▸ op_catA
theorem srtK {X : Cx} {K : PySem.W.Frag} (h : X.K = K) (hu : X.A.units + 64 < cLine) : CallR X (.builtin "sorted") (SR.rSrt K) := h ▸ SR.cr_srt hu
theorem goU {S D L : Addr} {H0 H : Hp} {o : HO} (L0 : H0 L = none) (d0 : DrawAt S D H0) (g : Go S D H0 H) : Go S D H0 (upd H L o) := by
  obtain ⟨LD, LS⟩ := d0.free L0
  obtain ⟨cs, hc⟩ := g.1.cells
  obtain ⟨j, r, c, j0, hD⟩ := g.1.at_
  refine ⟨⟨g.1.ne, ⟨cs, ?_⟩, ⟨j, r, c, j0, ?_⟩⟩, fun b o h n => ?_⟩
  · rw [upd_ne LS.symm]
    exact hc
  · rw [upd_ne LD.symm]
    exact hD
  · rw [upd_ne (ne_of_none h L0)]
    exact g.2 b o h n
theorem catA_mono {K : PySem.W.Frag} {x y : V} {H : Hp} {Q Q' : VK} (h : rCatA K x y H Q) (m : ∀ x H, Q x H → Q' x H) : rCatA K x y H Q' := by
  obtain ⟨a, b, xs, ys, e1, e2, h1, h2, h3, q0, q1, q2⟩ := h
  exact ⟨a, b, xs, ys, e1, e2, h1, h2, h3, fun e => m _ _ (q0 e), fun e1 e2 => m _ _ (q1 e1 e2), fun e1 e2 p hp => m _ _ (q2 e1 e2 p hp)⟩
/-! ### words and chains -/
def dI (l : List Int) : PyData := .tuple (l.map .int)
def dSh (ss : List Str) : PyData := .tuple (ss.map .str)
abbrev Br : Type := List Int × List Str × Nat
def dBr (b : Br) : PyData := .tuple [dI b.1, dSh b.2.1, .int b.2.2]
def dRw (r : List Br) : PyData := .tuple (r.map dBr)
abbrev Chn : Type := List (List Br)
def dChn (base : Int) (C : Chn) : PyData := .tuple [.str "chain", .int base, .tuple (C.map dRw)]
theorem dI_noL (l : List Int) : noL (dI l) = true := noLs_map _ _ fun _ _ => rfl
theorem dSh_noL (l : List Str) : noL (dSh l) = true := noLs_map _ _ fun _ _ => rfl
theorem dBr_noL (b : Br) : noL (dBr b) = true := by
  show (noL (dI b.1) && (noL (dSh b.2.1) && (true && true))) = true
  rw [dI_noL, dSh_noL]
  rfl
theorem dRw_noL (r : List Br) : noL (dRw r) = true := noLs_map _ _ fun b _ => dBr_noL b
theorem dChn_noL (base : Int) (C : Chn) : noL (dChn base C) = true := by
  show (true && (true && (noLs (C.map dRw) && true))) = true
  rw [noLs_map _ _ fun r _ => dRw_noL r]
  rfl
theorem noLs_I (ws : List (List Int)) : noLs (ws.map dI) = true := noLs_map _ _ fun w _ => dI_noL w
section
variable {K : PySem.W.Frag} {H H' : Hp} {v : V}
theorem dp_strs : ∀ {ss : List Str} {xs : List V}, DpAll K H xs (ss.map .str) → xs = ss.map V.str
  | [], _, h => dpA_nil h
  | s :: r, _, h => by
    obtain ⟨x, t, rfl, h1, h2⟩ := dpA_cons h
    rw [dp_str h1, dp_strs h2]
    rfl
theorem strs_dp : ∀ ss : List Str, DpAll K H (ss.map V.str) (ss.map .str)
  | [] => .nil
  | s :: r => .cons (.str s) (strs_dp r)
theorem dp_ints : ∀ {ss : List Int} {xs : List V}, DpAll K H xs (ss.map .int) → xs = ss.map V.int
  | [], _, h => dpA_nil h
  | s :: r, _, h => by
    obtain ⟨x, t, rfl, h1, h2⟩ := dpA_cons h
    rw [dp_int h1, dp_ints h2]
    rfl
theorem ints_dp : ∀ ss : List Int, DpAll K H (ss.map V.int) (ss.map .int)
  | [] => .nil
  | s :: r => .cons (.int s) (ints_dp r)
theorem sh_of {p : Addr} {ss : List Str} (h : SqT K H p (ss.map V.str)) : Dp K H (.ref p) (dSh ss) := .tup h (strs_dp ss)
theorem sh_at {ss : List Str} (h : Dp K H v (dSh ss)) : ∃ p, v = .ref p ∧ SqT K H p (ss.map V.str) := by
  obtain ⟨p, xs, rfl, h1, h2⟩ := dp_tup h
  rw [dp_strs h2] at h1
  exact ⟨p, rfl, h1⟩
theorem i_of {p : Addr} {ss : List Int} (h : SqT K H p (ss.map V.int)) : Dp K H (.ref p) (dI ss) := .tup h (ints_dp ss)
theorem i_at {ss : List Int} (h : Dp K H v (dI ss)) : ∃ p, v = .ref p ∧ SqT K H p (ss.map V.int) := by
  obtain ⟨p, xs, rfl, h1, h2⟩ := dp_tup h
  rw [dp_ints h2] at h1
  exact ⟨p, rfl, h1⟩
theorem br_at {b : Br} (h : Dp K H v (dBr b)) : ∃ p x0 x1, v = .ref p ∧ SqT K H p [x0, x1, .int b.2.2] ∧ Dp K H x0 (dI b.1) ∧ Dp K H x1 (dSh b.2.1) := by
  obtain ⟨p, xs, rfl, h1, hA⟩ := dp_tup h
  obtain ⟨x0, r0, rfl, h0, hA⟩ := dpA_cons hA
  obtain ⟨x1, r1, rfl, h2, hA⟩ := dpA_cons hA
  obtain ⟨x2, r2, rfl, h3, hA⟩ := dpA_cons hA
  cases dpA_nil hA
  rw [dp_int h3] at h1
  exact ⟨p, x0, x1, rfl, h1, h0, h2⟩
theorem chn_at {base : Int} {C : Chn} (h : Dp K H v (dChn base C)) : ∃ p q xs, v = .ref p ∧ SqT K H p [.str "chain", .int base, .ref q] ∧ SqT K H q xs ∧ DpAll K H xs (C.map dRw) := by
  obtain ⟨p, xs, rfl, h1, hA⟩ := dp_tup h
  obtain ⟨x0, r0, rfl, h0, hA⟩ := dpA_cons hA
  obtain ⟨x1, r1, rfl, h2, hA⟩ := dpA_cons hA
  obtain ⟨x2, r2, rfl, h3, hA⟩ := dpA_cons hA
  cases dpA_nil hA
  rw [dp_str h0, dp_int h2] at h1
  obtain ⟨q, ys, rfl, h4, h5⟩ := dp_tup h3
  exact ⟨p, q, ys, rfl, h1, h4, h5⟩
theorem dpA_get {α : Type} {f : α → PyData} {l : List α} {xs : List V} {i : Nat} {a : α} (h : DpAll K H xs (l.map f)) (e : l[i]? = some a) : ∃ x, xs[i]? = some x ∧ Dp K H x (f a) := by
  have hl := dpA_len h
  rw [List.length_map] at hl
  have hi : i < l.length := (List.getElem?_eq_some_iff.mp e).1
  obtain ⟨x, hx⟩ : ∃ x, xs[i]? = some x := ⟨xs[i]'(by omega), List.getElem?_eq_getElem _⟩
  obtain ⟨d, h1, h2⟩ := dpA_at h hx
  rw [List.getElem?_map, e] at h1
  obtain rfl : f a = d := Option.some.inj h1
  exact ⟨x, hx, h2⟩
theorem dpA_mem {α : Type} {f : α → PyData} {l : List α} {xs : List V} {i : Nat} {x : V} (h : DpAll K H xs (l.map f)) (e : xs[i]? = some x) : ∃ a, l[i]? = some a ∧ Dp K H x (f a) := by
  obtain ⟨d, h1, h2⟩ := dpA_at h e
  obtain ⟨a, h3, rfl⟩ := map_at h1
  exact ⟨a, h3, h2⟩
theorem dpA_app : ∀ {ds es : List PyData} {xs ys : List V}, DpAll K H xs ds → DpAll K H ys es → DpAll K H (xs ++ ys) (ds ++ es)
  | [], _, _, _, h, h' => by
    rw [dpA_nil h]
    exact h'
  | d :: ds, _, _, _, h, h' => by
    obtain ⟨x, r, rfl, h1, h2⟩ := dpA_cons h
    exact .cons h1 (dpA_app h2 h')
theorem dpA_erase : ∀ {ds : List PyData} {xs : List V} (i : Nat), DpAll K H xs ds → DpAll K H (xs.eraseIdx i) (ds.eraseIdx i)
  | [], _, _, h => by
    rw [dpA_nil h]
    exact .nil
  | d :: ds, _, 0, h => by
    obtain ⟨x, r, rfl, h1, h2⟩ := dpA_cons h
    exact h2
  | d :: ds, _, i + 1, h => by
    obtain ⟨x, r, rfl, h1, h2⟩ := dpA_cons h
    exact .cons h1 (dpA_erase i h2)
end
/-- every tape that is long enough begins with one of them -/
structure Cmpl (base : Int) (ws : List (List Int)) : Prop where
  all : ∀ t : List Int, (∀ x ∈ t, 0 ≤ x ∧ x < base) → 3 ≤ t.length → ∃ w ∈ ws, w <+: t
  short : ∀ w ∈ ws, w.length ≤ 3
  one : ws = [[]] ∨ ∀ w ∈ ws, w ≠ []
theorem Cmpl.start (base : Int) : Cmpl base [[]] := ⟨fun t _ _ => ⟨[], List.mem_singleton.mpr rfl, List.nil_prefix⟩, fun w h => by rw [List.mem_singleton.mp h]; exact Nat.zero_le _, .inl rfl⟩
def digits (base : Int) : List Int := (List.range base.toNat).map fun k : Nat => (0 : Int) + (k : Int)
theorem Cmpl.open {base : Int} {ws : List (List Int)} {i : Nat} {w : List Int} (c : Cmpl base ws) (hi : ws[i]? = some w) (hw : w.length < 3) : Cmpl base (ws.eraseIdx i ++ (digits base).map fun x => w ++ [x]) := by
  refine ⟨fun t ht hl => ?_, fun u hu => ?_, .inr fun u hu => ?_⟩
  · obtain ⟨u, hu, hp⟩ := c.all t ht hl
    by_cases e : u = w
    · subst e
      obtain ⟨r, rfl⟩ := hp
      cases r with
      | nil =>
        rw [List.append_nil] at hl
        omega
      | cons x r =>
        obtain ⟨h1, h2⟩ := ht x (List.mem_append.mpr (.inr List.mem_cons_self))
        refine ⟨u ++ [x], List.mem_append.mpr (.inr (List.mem_map.mpr ⟨x, List.mem_map.mpr ⟨x.toNat, List.mem_range.mpr (by omega), by omega⟩, rfl⟩)), ⟨r, by simp⟩⟩
    · refine ⟨u, List.mem_append.mpr (.inl ?_), hp⟩
      obtain ⟨j, hj⟩ := List.mem_iff_getElem?.mp hu
      have hji : j ≠ i := fun z => e (by rw [z, hi] at hj; exact (Option.some.inj hj).symm)
      rw [List.mem_eraseIdx_iff_getElem?]
      exact ⟨j, hji, hj⟩
  · rcases List.mem_append.mp hu with h | h
    · exact c.short u (List.mem_of_mem_eraseIdx h)
    · obtain ⟨x, _, rfl⟩ := List.mem_map.mp h
      rw [List.length_append, List.length_singleton]
      omega
  · rcases List.mem_append.mp hu with h | h
    · rcases c.one with e | e
      · rw [e] at h hi
        cases i with
        | zero => cases h
        | succ i => cases hi
      · exact e u (List.mem_of_mem_eraseIdx h)
    · obtain ⟨x, _, rfl⟩ := List.mem_map.mp h
      simp
end Mt
namespace Mt
open PySem PySem.Spec PyProof.Rows L2
def spWords (K : PySem.W.Frag) : Sp := fun vs H Q _ => ∃ (S D : Addr) (base many : Int), vs = [.ref D, .int base, .int many] ∧ DrawAt S D H ∧ 2 ≤ base ∧ base ≤ 6 ∧ 0 ≤ many ∧ many ≤ 2 ∧
  ∀ (H' : Hp) (L : Addr) (xs : List V) (ws : List (List Int)), Go S D H H' → H L = none → H' L = some (.lst xs) → DpAll K H' xs (ws.map dI) → Cmpl base ws → 0 < ws.length → ws.length ≤ 20 → Q (.ref L) H'
def spShown (K : PySem.W.Frag) : Sp := fun vs H Q _ => ∃ (S D m : Addr) (ms : List Str), vs = [.ref D, .ref m] ∧ DrawAt S D H ∧ m ≠ D ∧ H m = some (.lst (ms.map V.str)) ∧ 0 < ms.length ∧ ms.length ≤ 100 ∧
  ∀ (H' : Hp) (p : Addr) (ss : List Str), Go S D H H' → H p = none → H' p = some (.tup (ss.map V.str)) → (∀ s ∈ ss, s ∈ ms) → ss.length ≤ 6 → Q (.ref p) H'
theorem dig_at {base : Int} {j : Nat} (h : j < base.toNat) : (digits base)[j]? = some (0 + (j : Int)) := by
  unfold digits
  rw [List.getElem?_map, List.getElem?_range h]
  rfl
theorem dig_len (base : Int) : (digits base).length = base.toNat := by
  unfold digits
  rw [List.length_map, List.length_range]
theorem alike_I (a b : List Int) : PySem.W.alike (dI a) (dI b) = true := by
  unfold dI
  simp [PySem.W.alike, PySem.W.alike_ints]
theorem dep_I (a : List Int) : (dI a).depth ≤ 1 := by
  unfold dI
  simp [PyData.depth, PySem.W.depth_ints]
theorem srt_words {base : Int} {ws : List (List Int)} (c : Cmpl base ws) : SR.SrtOk (ws.map dI) := by
  refine ⟨PySem.W.AllAlike.of alike_I, ?_, fun d hd => ?_⟩
  · rcases c.one with e | e
    · right
      rw [e]
      rfl
    · left
      left
      intro d hd
      obtain ⟨w, hw, rfl⟩ := List.mem_map.mp hd
      cases h : w with
      | nil => exact absurd h (e w hw)
      | cons x r => exact ⟨_, _, rfl⟩
  · obtain ⟨w, hw, rfl⟩ := List.mem_map.mp hd
    exact Nat.le_trans (dep_I w) (by decide)
/-- data beside the values -/
theorem zip_dp {K : PySem.W.Frag} {H : Hp} : ∀ {ds : List PyData} {xs : List V}, DpAll K H xs ds → (xs.zip ds).map (·.1) = xs ∧ (xs.zip ds).map (·.2) = ds ∧ ∀ b ∈ xs.zip ds, Dp K H b.1 b.2
  | [], _, h => by
    rw [dpA_nil h]
    exact ⟨rfl, rfl, fun _ h => absurd h List.not_mem_nil⟩
  | d :: ds, _, h => by
    obtain ⟨x, r, rfl, h1, h2⟩ := dpA_cons h
    obtain ⟨a, b, c⟩ := zip_dp h2
    refine ⟨by rw [List.zip_cons_cons, List.map_cons, a], by rw [List.zip_cons_cons, List.map_cons, b], fun y hy => ?_⟩
    rw [List.zip_cons_cons] at hy
    rcases List.mem_cons.mp hy with rfl | hy
    · exact h1
    · exact c y hy
theorem dpA_of {K : PySem.W.Frag} {H : Hp} : ∀ {bs : List (V × PyData)}, (∀ b ∈ bs, Dp K H b.1 b.2) → DpAll K H (bs.map (·.1)) (bs.map (·.2))
  | [], _ => .nil
  | b :: r, h => .cons (h b List.mem_cons_self) (dpA_of fun x hx => h x (List.mem_cons_of_mem _ hx))
theorem perm_back {α β : Type} {f : α → β} {l : List α} {l2 : List β} (h : l2.Perm (l.map f)) : ∃ l' : List α, l'.Perm l ∧ l2 = l'.map f := by
  generalize hm : l.map f = m at h
  induction h generalizing l with
  | nil =>
    cases l with
    | nil => exact ⟨[], .nil, rfl⟩
    | cons x r => cases hm
  | @cons x l1 l2 p ih =>
    cases l with
    | nil => cases hm
    | cons y r =>
      obtain ⟨e1, e2⟩ := List.cons.inj hm
      obtain ⟨l', h1, h2⟩ := ih e2
      exact ⟨y :: l', h1.cons y, by rw [List.map_cons, e1, h2]⟩
  | @swap x y l1 =>
    match l, hm with
    | a :: b :: r, hm =>
      obtain ⟨e1, e2⟩ := List.cons.inj hm
      obtain ⟨e3, e4⟩ := List.cons.inj e2
      exact ⟨b :: a :: r, .swap a b r, by rw [List.map_cons, List.map_cons, e1, e3, e4]⟩
  | @trans l1 l2 l3 p1 p2 ih1 ih2 =>
    obtain ⟨l', h1, h2⟩ := ih2 hm
    obtain ⟨l'', h3, h4⟩ := ih1 h2.symm
    exact ⟨l'', h3.trans h1, h4⟩
theorem Cmpl.perm {base : Int} {ws ws' : List (List Int)} (c : Cmpl base ws) (p : ws'.Perm ws) : Cmpl base ws' := by
  refine ⟨fun t h1 h2 => ?_, fun w hw => c.short w (p.mem_iff.mp hw), ?_⟩
  · obtain ⟨w, hw, h⟩ := c.all t h1 h2
    exact ⟨w, p.mem_iff.mpr hw, h⟩
  · rcases c.one with e | e
    · left
      rw [e] at p
      exact List.perm_singleton.mp p
    · exact .inr fun w hw => e w (p.mem_iff.mp hw)
section
variable {P : Program} {w : World} {K : PySem.W.Frag} {mg : Str → Option Value} {base : Heap}
theorem ok__law_words (T : Txt K mg) (D__law_draw : Kept P w K mg base 1 "_law_draw" ["d", "many"] spDraw) {f : Addr} {fd : FuncData} (F : FnP K "_law_words" s__law_words f fd) : FnOk P w K mg base CX0 2 f fd ["d", "base", "many"] (spWords K) := by
  refine F.ok sc__law_words (fun vs H Q E h => ?_) (fun cdv A outer s H vs Q E hr h => ?_)
  · obtain ⟨S, D, b, many, rfl, _⟩ := h
    rfl
  · obtain ⟨S, D, b, many, rfl, d, b2, b6, m0, m2, q⟩ := h
    refine ⟨_, PSs.nox (pss_cons (ps_set (i := 3) sc__law_words.nd rfl (Or.inl rfl) (pe_lst (pa_cons (pe_tup pa_nil) pa_nil)))
      (pss_cons (ps_for PassesOwn.never rfl (pi_range1 (by rfl) T.b_range (pa_cons (pv 2) pa_nil)) (pg_name (i := 4) sc__law_words.nd rfl (Or.inl rfl)) (pss_cons (ps_set (i := 5) sc__law_words.nd rfl (Or.inl rfl) (pe_d D__law_draw (hr.mono (by decide)) (by rfl) (pa_cons (pv 0) (pa_cons (pe_callB call_len (by rfl) T.b_len (by decide +kernel) (pa_cons (pv 3) pa_nil)) pa_nil))))
      (pss_one (ps_if (pt_cmpR op_lt (pe_callB call_len (by rfl) T.b_len (by decide +kernel) (pa_cons (pe_ix ix_list (pv 3) (pv 5) (fun _ _ => rfl)) pa_nil)) pe_int (nomark _)) (pss_cons (ps_set (i := 6) sc__law_words.nd rfl (Or.inr rfl) (pe_bm PySem.F.plainAttrs_list PySem.F.slot_list_pop PySem.F.type_list_pop mt_popAt (pv 3) (pa_cons (pv 5) pa_nil)))
      (pss_one (ps_set (i := 3) sc__law_words.nd rfl (Or.inl rfl) (pe_op op_cat (pv 3) (pe_lc (own := [("digit", 7)]) (g := (gName 7)) (tt := tYes) rfl sc__law_words.nd (pi_range1 (by rfl) T.b_range (pa_cons (pv 1) pa_nil)) (blkOk_by (N := N__law_words) (sc := defScope s__law_words) (by decide +kernel)) (fun _ _ _ _ _ => (pg_name (i := 7) sc__law_words.nd rfl (Or.inl rfl))) (fun _ _ _ _ _ => pts_nil) (fun _ _ _ _ _ => (pe_op (catA (K := K) rfl) (pv 6) (pe_tup (pa_cons (pv 7) pa_nil))))))))) pss_nil))))
      (pss_one (ps_ret (pe_callB (srtK (K := K) rfl hr.units) (by rfl) T.b_sorted (by decide +kernel) (pa_cons (pv 3) pa_nil)))))), ?_⟩
    refine ⟨Nat.zero_le _, fun p0 hp0 => ⟨by show 1 ≤ sizeLine; decide, fun L0 hL0 => ?_⟩⟩
    have g1 := Go.new (o := .tup []) d hp0
    have g2 := g1.trans (Go.new (o := .lst [.ref p0]) g1.1 hL0)
    have L00 := g1.free d hL0
    have hp2 : (upd (upd H p0 (.tup [])) L0 (.lst [.ref p0])) p0 = some (.tup []) := same_new hL0 _ _ upd_same
    refine ⟨_, rfl, _, rfl, by omega, by omega, for_range (lo := 0) (n := many.toNat) (fun i σ H' => ∃ (y4 y5 y6 y7 : Option V) (Lw : Addr) (xs : List V) (ws : List (List Int)), σ = [some (.ref D), some (.int b), some (.int many), some (.ref Lw), y4, y5, y6, y7] ∧ Go S D H H' ∧ H Lw = none ∧ H' Lw = some (.lst xs) ∧ DpAll K H' xs (ws.map dI) ∧ Cmpl b ws ∧ 0 < ws.length ∧ ws.length ≤ 1 + 6 * i) ⟨_, _, _, _, L0, _, [[]], rfl, g2, L00, upd_same, .cons (i_of (ss := []) (SqT.of hp2)) .nil, Cmpl.start b, by decide, by decide⟩ ?_ ?_⟩
    · rintro i σ H1 hi ⟨y4, y5, y6, y7, Lw, xs, ws, rfl, g, hL0, hL, hA, hc, l0, l1⟩
      have LD := (d.free hL0).1
      have xl := dpA_len hA
      rw [List.length_map] at xl
      refine ⟨_, rfl, _, rfl, _, _, rfl, .inl ⟨_, SqL.of hL, rfl⟩, S, D, _, rfl, divW_of (by omega) (by omega), g.1, fun H2 v v0 v1 g2 => ?_⟩
      have hv : v.toNat < xs.length := by omega
      have ex : xs[v.toNat]? = some xs[v.toNat] := List.getElem?_eq_getElem hv
      have hL2 := g2.2 _ _ hL LD
      have hA2 := dpA_keep (Go.keepT g.1 g2) _ _ (noLs_I ws) hA
      obtain ⟨wd, hw, hx⟩ := dpA_mem hA2 ex
      obtain ⟨pw, hpw, hpT⟩ := i_at hx
      have ea : atI xs v = some (.ref pw) := by
        have := atI_nat (xs := xs) ex
        rw [hpw, show ((v.toNat : Nat) : Int) = v by omega] at this
        exact this
      refine ⟨_, rfl, _, rfl, Lw, xs, v, _, rfl, rfl, SqL.of hL2, ea, _, _, rfl, .inr ⟨_, hpT, rfl⟩, ?_⟩
      refine ⟨_, _, rfl, rfl, _, rfl, ?_⟩
      refine ite2 (fun e3 => ?_) (fun _ => ⟨_, _, _, _, Lw, xs, ws, rfl, g.trans g2, hL0, hL2, hA2, hc, l0, by omega⟩)
      have hw3 : wd.length < 3 := by
        have := of_decide_eq_true e3
        rw [List.length_map] at this
        omega
      refine ⟨_, rfl, .inl ⟨rfl, _, SqL.of hL2⟩, _, rfl, Lw, xs, v, v.toNat, _, rfl, rfl, hL2, by omega, by omega, seqIndex_of v0 (by omega), ex, ?_⟩
      rw [hpw]
      have kL := keepT_nt (o := .lst (xs.eraseIdx v.toNat)) (nt_lst _) hL2
      have g3 : Go S D H (upd H2 Lw (.lst (xs.eraseIdx v.toNat))) := goU hL0 d (g.trans g2)
      have hL3 := upd_same (H := H2) (a := Lw) (o := .lst (xs.eraseIdx v.toNat))
      have hA3 := dpA_keep kL _ _ (noLs_I ws) hA2
      have hp3 := sqt_keep kL hpT
      generalize upd H2 Lw (.lst (xs.eraseIdx v.toNat)) = H3 at g3 hL3 hA3 hp3
      refine ⟨_, rfl, _, rfl, _, rfl, by omega, by omega, fun Lc hLc => lc_range (lo := 0) (n := b.toNat) (fun j H' => Same H3 H' ∧ ∃ zs, H' Lc = some (.lst zs) ∧ DpAll K H' zs ((((digits b).take j).map fun x => wd ++ [x]).map dI)) ⟨same_new hLc, [], upd_same, .nil⟩ ?_ ?_⟩
      · rintro j H4 hj ⟨s4, zs, hz, hzA⟩
        refine ⟨rfl, _, rfl, _, rfl, by show 1 ≤ sizeLine; decide, fun p1 hp1 => ?_⟩
        have s5 := s4.trans (same_new (o := .tup [V.int (0 + (j : Int))]) hp1)
        have h15 := upd_same (H := H4) (a := p1) (o := .tup [V.int (0 + (j : Int))])
        have hz5 := same_new (o := .tup [V.int (0 + (j : Int))]) hp1 _ _ hz
        have hzA5 := dpA_keep (keepT_new (o := .tup [V.int (0 + (j : Int))]) hp1) _ _ (noLs_I _) hzA
        generalize upd H4 p1 (.tup [V.int (0 + (j : Int))]) = H5 at s5 h15 hz5 hzA5
        have hdj := dig_at (base := b) hj
        have zl := dpA_len hzA5
        rw [List.length_map, List.length_map, List.length_take] at zl
        have fin : ∀ (H6 : Hp) (p : Addr), Same H5 H6 → SqT K H6 p ((wd ++ [0 + (j : Int)]).map V.int) → ∃ acc, H6 Lc = some (.lst acc) ∧ acc.length < sizeLine ∧ Same H3 (upd H6 Lc (.lst (acc ++ [.ref p]))) ∧ ∃ zs, upd H6 Lc (.lst (acc ++ [.ref p])) Lc = some (.lst zs) ∧ DpAll K (upd H6 Lc (.lst (acc ++ [.ref p]))) zs ((((digits b).take (j + 1)).map fun x => wd ++ [x]).map dI) := fun H6 p s6 hp => by
          have hz6 := s6 _ _ hz5
          have kc := keepT_nt (o := .lst (zs ++ [.ref p])) (nt_lst _) hz6
          refine ⟨zs, hz6, line6 (by omega), same_mut (s5.trans s6) hLc, zs ++ [.ref p], upd_same, ?_⟩
          rw [List.take_add_one, hdj, List.map_append, List.map_append]
          exact dpA_snoc (dpA_keep kc _ _ (noLs_I _) (dpA_keep (KeepT.of_same s6) _ _ (noLs_I _) hzA5)) (dp_keep kc _ _ (dI_noL _) (i_of hp))
        have hpw5 := sqt_keep (KeepT.of_same s5) hp3
        refine ⟨pw, p1, _, _, rfl, rfl, hpw5, SqT.of h15, by rw [List.length_map]; exact line5 (by show _ + 1 ≤ _; omega), fun e => ?_, fun _ e => (by cases e), fun _ _ p hp => ?_⟩
        · have : wd = [] := List.map_eq_nil_iff.mp e
          subst this
          exact fin H5 p1 (Same.refl _) (SqT.of h15)
        · exact fin _ p (same_new hp) (SqT.of (by rw [upd_same, List.map_append]; rfl))
      · rintro H4 ⟨s4, zs, hz, hzA⟩
        rw [List.take_of_length_le (by rw [dig_len]; exact Nat.le_refl _)] at hzA
        have zl := dpA_len hzA
        rw [List.length_map, List.length_map, dig_len] at zl
        have hA4 := dpA_keep (KeepT.of_same s4) _ _ (noLs_I ws) hA3
        have hE := dpA_erase v.toNat hA4
        refine ⟨Lw, Lc, _, zs, rfl, rfl, s4 _ _ hL3, hz, by rw [List.length_eraseIdx_of_lt hv]; exact line5 (by omega), fun Ln hLn => ?_⟩
        have s5 := same_new (o := .lst (xs.eraseIdx v.toNat ++ zs)) hLn
        have k5 := KeepT.of_same s5
        have hLnH : H Ln = none := by
          have g4 := g3.trans (Go.same g3.1 s4)
          exact g4.free d hLn
        have ee : (ws.map dI).eraseIdx v.toNat = (ws.eraseIdx v.toNat).map dI := by
          simp [List.eraseIdx_eq_take_drop_succ]
        rw [ee] at hE
        have wl : (ws.eraseIdx v.toNat).length + 1 = ws.length := by
          rw [List.length_eraseIdx_of_lt (by omega)]
          omega
        refine ⟨_, _, _, _, Ln, _, ws.eraseIdx v.toNat ++ (digits b).map fun x => wd ++ [x], rfl, g3.trans (Go.same g3.1 (s4.trans s5)), hLnH, upd_same, ?_, hc.open hw hw3, ?_, ?_⟩
        · rw [List.map_append]
          exact dpA_app (dpA_keep k5 _ _ (noLs_I _) hE) (dpA_keep k5 _ _ (noLs_I _) hzA)
        · rw [List.length_append, List.length_map, dig_len]
          omega
        · rw [List.length_append, List.length_map, dig_len]
          omega
    · rintro σ H1 ⟨y4, y5, y6, y7, Lw, xs, ws, rfl, g, hL0, hL, hA, hc, l0, l1⟩
      obtain ⟨z1, z2, z3⟩ := zip_dp hA
      refine ⟨_, rfl, Lw, xs.zip (ws.map dI), rfl, SqL.of (by rw [z1]; exact hL), z3, by rw [z2]; exact srt_words hc, fun ys p hy hp => ?_⟩
      have hperm : (ys.map (·.2)).Perm (ws.map dI) := by
        have := hy.map (fun b : V × PyData => b.2)
        rw [z2] at this
        exact this
      obtain ⟨ws', w1, w2⟩ := perm_back hperm
      have gp := Go.new (o := .lst (ys.map (·.1))) g.1 hp
      have hA' := dpA_of (bs := ys) fun b hb => z3 b (hy.mem_iff.mp hb)
      rw [w2] at hA'
      exact q _ p _ ws' (g.trans gp) (g.free d hp) upd_same (dpA_keep (Go.keepT g.1 gp) _ _ (noLs_I ws') hA') (hc.perm w1) (by rw [w1.length_eq]; exact l0) (by rw [w1.length_eq]; omega)
end
end Mt
namespace Mt
open PySem PySem.Spec PyProof.Rows L2
structure RwOk (base : Int) (n : Nat) (r : List Br) : Prop where
  ne : 0 < r.length
  few : r.length ≤ 20
  to : ∀ b ∈ r, b.2.2 < n ∧ b.2.1.length ≤ 6
  cm : Cmpl base (r.map (·.1))
structure ChnOk (base : Int) (C : Chn) : Prop where
  b2 : 2 ≤ base
  b6 : base ≤ 6
  pos : 0 < C.length
  few : C.length ≤ 20
  row : ∀ r ∈ C, RwOk base C.length r
def spWChain (K : PySem.W.Frag) : Sp := fun vs H Q _ => ∃ (S D m : Addr) (base n : Int) (ms : List Str), vs = [.ref D, .int base, .int n, .ref m] ∧ DrawAt S D H ∧ m ≠ D ∧ H m = some (.lst (ms.map V.str)) ∧ 0 < ms.length ∧ ms.length ≤ 100 ∧ 2 ≤ base ∧ base ≤ 6 ∧ 1 ≤ n ∧ n ≤ 20 ∧
  ∀ (H' : Hp) (v : V) (C : Chn), Go S D H H' → Dp K H' v (dChn base C) → ChnOk base C → C.length = n.toNat → Q v H'
def spRChain (K : PySem.W.Frag) : Sp := fun vs H Q _ => ∃ (S D m : Addr) (n : Int) (ms : List Str), vs = [.ref D, .ref m, .int n] ∧ DrawAt S D H ∧ m ≠ D ∧ H m = some (.lst (ms.map V.str)) ∧ 0 < ms.length ∧ ms.length ≤ 100 ∧ 1 ≤ n ∧ n ≤ 20 ∧
  ∀ (H' : Hp) (v : V) (base : Int) (C : Chn), Go S D H H' → Dp K H' v (dChn base C) → ChnOk base C → Q v H'
theorem noLs_br (r : List Br) : noLs (r.map dBr) = true := noLs_map _ _ fun b _ => dBr_noL b
theorem noLs_rw (C : Chn) : noLs (C.map dRw) = true := noLs_map _ _ fun r _ => dRw_noL r
section
variable {P : Program} {w : World} {K : PySem.W.Frag} {mg : Str → Option Value} {base : Heap}
theorem ok__law_wide_shown (T : Txt K mg) (D__law_pick : Kept P w K mg base 2 "_law_pick" ["d", "row"] (spPick K)) {f : Addr} {fd : FuncData} (F : FnP K "_law_wide_shown" s__law_wide_shown f fd) : FnOk P w K mg base CX0 3 f fd ["d", "marks"] (spShown K) := by
  refine F.ok sc__law_wide_shown (fun vs H Q E h => ?_) (fun cdv A outer s H vs Q E hr h => ?_)
  · obtain ⟨S, D, m, ms, rfl, _⟩ := h
    rfl
  · obtain ⟨S, D, m, ms, rfl, d, nD, hm, h0, h1, q⟩ := h
    refine ⟨_, PSs.nox (pss_one (ps_ret (pe_callTy (tupOfT (K := K) rfl) (by rfl) T.b_tuple (by decide +kernel) (pa_cons (pe_lc (own := [("k", 2)]) (g := (gName 2)) (tt := tYes) rfl sc__law_wide_shown.nd (pi_range1 (by rfl) T.b_range (pa_cons (pe_d D__law_pick (hr.mono (by decide)) (by rfl) (pa_cons (pv 0) (pa_cons (pe_lst (pa_cons pe_int (pa_cons pe_int (pa_cons pe_int (pa_cons pe_int (pa_cons pe_int (pa_cons pe_int (pa_cons pe_int (pa_cons pe_int (pa_cons pe_int pa_nil)))))))))) pa_nil))) pa_nil)) (blkOk_by (N := N__law_wide_shown) (sc := defScope s__law_wide_shown) (by decide +kernel)) (fun _ _ _ _ _ => (pg_name (i := 2) sc__law_wide_shown.nd rfl (Or.inl rfl))) (fun _ _ _ _ _ => pts_nil) (fun _ _ _ _ _ => (pe_d D__law_pick (hr.mono (by decide)) (by rfl) (pa_cons (pv 0) (pa_cons (pv 1) pa_nil))))) pa_nil)))), ?_⟩
    refine ⟨_, rfl, by show 9 ≤ sizeLine; decide, fun L hL => ?_⟩
    have d1 := d.new (o := .lst [V.int 0, .int 0, .int 1, .int 1, .int 1, .int 2, .int 2, .int 3, .int 6]) hL
    have LD := (d.free hL).1
    have g1 : Go S D H (upd H L (.lst [V.int 0, .int 0, .int 1, .int 1, .int 1, .int 2, .int 2, .int 3, .int 6])) := Go.new d hL
    refine ⟨S, D, .ref L, [V.int 0, .int 0, .int 1, .int 1, .int 1, .int 2, .int 2, .int 3, .int 6], rfl, d1, fun H' g => .inr (.inl ⟨L, rfl, SqL.of (g.2 _ _ upd_same LD)⟩), by decide, by decide, fun H2 x hx g2 => ?_⟩
    obtain ⟨n, rfl, hn⟩ : ∃ n : Nat, x = .int (n : Int) ∧ n ≤ 6 := by
      simp only [List.mem_cons, List.not_mem_nil, or_false] at hx
      rcases hx with e | e | e | e | e | e | e | e | e
      · exact ⟨0, e, by decide⟩
      · exact ⟨0, e, by decide⟩
      · exact ⟨1, e, by decide⟩
      · exact ⟨1, e, by decide⟩
      · exact ⟨1, e, by decide⟩
      · exact ⟨2, e, by decide⟩
      · exact ⟨2, e, by decide⟩
      · exact ⟨3, e, by decide⟩
      · exact ⟨6, e, by decide⟩
    have g3 := g1.trans g2
    refine ⟨_, rfl, by omega, by omega, fun Lc hLc => lc_range (lo := 0) (n := n) (fun j H' => ∃ ss : List Str, Go S D H2 H' ∧ H' Lc = some (.lst (ss.map V.str)) ∧ ss.length = j ∧ ∀ s ∈ ss, s ∈ ms) ⟨[], Go.new g3.1 hLc, upd_same, rfl, fun _ h => absurd h List.not_mem_nil⟩ ?_ ?_⟩
    · rintro j H4 hj ⟨ss, g4, hL4, hl, hs⟩
      have LcD := (g3.1.free hLc).1
      refine ⟨rfl, _, rfl, _, rfl, S, D, .ref m, ms.map V.str, rfl, g4.1, fun H' g' => .inr (.inl ⟨m, rfl, SqL.of (((g3.trans g4).trans g').2 _ _ hm nD)⟩), by rw [List.length_map]; exact h0, by rw [List.length_map]; omega, fun H5 x hx g5 => ?_⟩
      obtain ⟨z, hz, rfl⟩ := List.mem_map.mp hx
      refine ⟨_, g5.2 _ _ hL4 LcD, by rw [List.length_map]; exact line6 (by omega), ss ++ [z], goU hLc g3.1 (g4.trans g5), by rw [upd_same, List.map_append]; rfl, by rw [List.length_append, List.length_singleton, hl], fun s h => ?_⟩
      rcases List.mem_append.mp h with h | h
      · exact hs s h
      · rw [List.mem_singleton.mp h]
        exact hz
    · rintro H4 ⟨ss, g4, hL4, hl, hs⟩
      refine ⟨Lc, _, rfl, .inl ⟨SqL.of hL4, fun p hp => ?_⟩⟩
      have g5 := g3.trans g4
      exact q _ p ss (g5.trans (Go.new g5.1 hp)) (g5.free d hp) upd_same hs (by omega)
theorem ok__law_wide_chain (T : Txt K mg) (D__law_draw : Kept P w K mg base 1 "_law_draw" ["d", "many"] spDraw) (D__law_words : Kept P w K mg base 2 "_law_words" ["d", "base", "many"] (spWords K)) (D__law_wide_shown : Kept P w K mg base 3 "_law_wide_shown" ["d", "marks"] (spShown K)) {f : Addr} {fd : FuncData} (F : FnP K "_law_wide_chain" s__law_wide_chain f fd) : FnOk P w K mg base CX0 4 f fd ["d", "base", "states", "marks"] (spWChain K) := by
  refine F.ok sc__law_wide_chain (fun vs H Q E h => ?_) (fun cdv A outer s H vs Q E hr h => ?_)
  · obtain ⟨S, D, m, b, n, ms, rfl, _⟩ := h
    rfl
  · obtain ⟨S, D, m, b, n, ms, rfl, d, nD, hm, h0, h1, b2, b6, n1, n2, q⟩ := h
    refine ⟨_, PSs.nox (pss_cons (ps_set (i := 4) sc__law_wide_chain.nd rfl (Or.inl rfl) (pe_lst pa_nil))
      (pss_cons (ps_for PassesOwn.never rfl (pi_range1 (by rfl) T.b_range (pa_cons (pv 2) pa_nil)) (pg_name (i := 5) sc__law_wide_chain.nd rfl (Or.inl rfl)) (pss_cons (ps_set (i := 6) sc__law_wide_chain.nd rfl (Or.inl rfl) (pe_lst pa_nil))
      (pss_cons (ps_for PassesOwn.never rfl (pi_list (pe_d D__law_words (hr.mono (by decide)) (by rfl) (pa_cons (pv 0) (pa_cons (pv 1) (pa_cons (pe_d D__law_draw (hr.mono (by decide)) (by rfl) (pa_cons (pv 0) (pa_cons pe_int pa_nil))) pa_nil))))) (pg_name (i := 7) sc__law_wide_chain.nd rfl (Or.inl rfl)) (pss_one (ps_expr (pe_bm PySem.F.plainAttrs_list PySem.F.slot_list_append PySem.F.type_list_append mt_append (pv 6) (pa_cons (pe_tup (pa_cons (pv 7) (pa_cons (pe_d D__law_wide_shown (hr.mono (by decide)) (by rfl) (pa_cons (pv 0) (pa_cons (pv 3) pa_nil))) (pa_cons (pe_d D__law_draw (hr.mono (by decide)) (by rfl) (pa_cons (pv 0) (pa_cons (pv 2) pa_nil))) pa_nil)))) pa_nil)))))
      (pss_one (ps_expr (pe_bm PySem.F.plainAttrs_list PySem.F.slot_list_append PySem.F.type_list_append mt_append (pv 4) (pa_cons (pe_callTy (tupOfT (K := K) rfl) (by rfl) T.b_tuple (by decide +kernel) (pa_cons (pv 6) pa_nil)) pa_nil)))))))
      (pss_one (ps_ret (pe_tup (pa_cons pe_str (pa_cons (pv 1) (pa_cons (pe_callTy (tupOfT (K := K) rfl) (by rfl) T.b_tuple (by decide +kernel) (pa_cons (pv 4) pa_nil)) pa_nil)))))))), ?_⟩
    refine ⟨Nat.zero_le _, fun L hL => ?_⟩
    have g1 := Go.new (o := .lst []) d hL
    have LD := (d.free hL).1
    refine ⟨_, rfl, _, rfl, by omega, by omega, for_range (lo := 0) (n := n.toNat) (fun i σ H' => ∃ (y5 y6 y7 : Option V) (zs : List V) (C : Chn), σ = [some (.ref D), some (.int b), some (.int n), some (.ref m), some (.ref L), y5, y6, y7] ∧ Go S D H H' ∧ H' L = some (.lst zs) ∧ DpAll K H' zs (C.map dRw) ∧ C.length = i ∧ ∀ r ∈ C, RwOk b n.toNat r) ⟨_, _, _, [], [], rfl, g1, upd_same, .nil, rfl, fun _ h => absurd h List.not_mem_nil⟩ ?_ ?_⟩
    · rintro i σ H1 hi ⟨y5, y6, y7, zs, C, rfl, g, hL1, hzs, hC, hCr⟩
      have zl := dpA_len hzs
      rw [List.length_map] at zl
      refine ⟨Nat.zero_le _, fun f hf => ?_⟩
      have gf := Go.new (o := .lst []) g.1 hf
      have fD := (g.1.free hf).1
      have fL : f ≠ L := (ne_of_none hL1 hf).symm
      have hf2 := upd_same (H := H1) (a := f) (o := .lst [])
      generalize upd H1 f (.lst []) = H2 at gf hf2
      refine ⟨_, rfl, _, rfl, _, rfl, S, D, 3, rfl, divW_of (by decide) (by decide), gf.1, fun H3 mm m0 m1 g3 => ⟨S, D, b, mm, rfl, g3.1, b2, b6, m0, by omega, fun H4 Lw xs ws g4 hLw0 hLw hA hc w0 w1 => ?_⟩⟩
      have g34 := gf.trans (g3.trans g4)
      have LwD := (g3.1.free hLw0).1
      have hf4 := (g3.trans g4).2 _ _ hf2 fD
      have LwF : Lw ≠ f := fun e => by
        rw [e, g3.2 _ _ hf2 fD] at hLw0
        cases hLw0
      have xl := dpA_len hA
      rw [List.length_map] at xl
      refine ⟨Lw, rfl, ⟨_, SqL.of hLw⟩, for_list (K := K) (a := Lw) (xs := xs) (fun j σ H' => ∃ (y7 : Option V) (qs : List V) (r : List Br), σ = [some (.ref D), some (.int b), some (.int n), some (.ref m), some (.ref L), some (.int (0 + (i : Int))), some (.ref f), y7] ∧ Go S D H1 H' ∧ H' Lw = some (.lst xs) ∧ DpAll K H' xs (ws.map dI) ∧ H' f = some (.lst qs) ∧ DpAll K H' qs (r.map dBr) ∧ r.map (·.1) = ws.take j ∧ ∀ b ∈ r, b.2.2 < n.toNat ∧ b.2.1.length ≤ 6) ⟨_, [], [], rfl, g34, hLw, hA, hf4, .nil, rfl, fun _ h => absurd h List.not_mem_nil⟩ (fun i σ H' _ ⟨_, _, _, _, _, h, _⟩ => SqL.of h) ?_ ?_⟩
      · rintro j x σ H5 hj ⟨y7, qs, r, rfl, g5, hLw5, hA5, hf5, hr5, er, hrr⟩
        obtain ⟨wd, hw, hx⟩ := dpA_mem hA5 hj
        have jl := (List.getElem?_eq_some_iff.mp hj).1
        refine ⟨_, rfl, .inl ⟨rfl, _, SqL.of hf5⟩, _, rfl, _, rfl, _, rfl, S, D, m, ms, rfl, g5.1, nD, (g.trans g5).2 _ _ hm nD, h0, h1, fun H6 p ss g6 hp0 hp hss hsl => ?_⟩
        have pD := (g5.1.free hp0).1
        refine ⟨_, rfl, _, rfl, S, D, n, rfl, divW_of (by omega) (by omega), g6.1, fun H7 t t0 t1 g7 => ⟨by show 3 ≤ sizeLine; decide, fun pb hpb => ?_⟩⟩
        have g67 := g6.trans g7
        have gb := g67.trans (Go.new (o := .tup [x, .ref p, .int t]) g7.1 hpb)
        have hpb8 := upd_same (H := H7) (a := pb) (o := .tup [x, .ref p, .int t])
        have hp8 := same_new (o := .tup [x, .ref p, .int t]) hpb _ _ (g7.2 _ _ hp pD)
        generalize upd H7 pb (.tup [x, .ref p, .int t]) = H8 at gb hpb8 hp8
        have k8 := Go.keepT g5.1 gb
        have hf8 := gb.2 _ _ hf5 fD
        have kf := keepT_nt (o := .lst (qs ++ [.ref pb])) (nt_lst _) hf8
        have ql := dpA_len hr5
        rw [List.length_map] at ql
        have rl : r.length = j := by
          have := congrArg List.length er
          rw [List.length_map, List.length_take] at this
          omega
        have dB : Dp K H8 (.ref pb) (dBr (wd, ss, t.toNat)) := by
          have e1 : PyData.int ((t.toNat : Nat) : Int) = .int t := by rw [Int.toNat_of_nonneg t0]
          show Dp K H8 (.ref pb) (.tuple [dI wd, dSh ss, .int ((t.toNat : Nat) : Int)])
          rw [e1]
          exact .tup (SqT.of hpb8) (.cons (dp_keep k8 _ _ (dI_noL wd) hx) (.cons (sh_of (SqT.of hp8)) (.cons (.int _) .nil)))
        refine ⟨f, qs, _, rfl, rfl, hf8, line6 (by omega), _, qs ++ [.ref pb], r ++ [(wd, ss, t.toNat)], rfl, goU hf g.1 (g5.trans gb), ?_, dpA_keep kf _ _ (noLs_I ws) (dpA_keep k8 _ _ (noLs_I ws) hA5), upd_same, ?_, ?_, fun y hy => ?_⟩
        · rw [upd_ne LwF]
          exact gb.2 _ _ hLw5 LwD
        · rw [List.map_append]
          exact dpA_snoc (dpA_keep kf _ _ (noLs_br r) (dpA_keep k8 _ _ (noLs_br r) hr5)) (dp_keep kf _ _ (dBr_noL _) dB)
        · rw [List.map_append, er, List.take_add_one, hw]
          rfl
        · rcases List.mem_append.mp hy with h | h
          · exact hrr y h
          · rw [List.mem_singleton.mp h]
            exact ⟨by show t.toNat < n.toNat; omega, hsl⟩
      · rintro σ H5 ⟨y7, qs, r, rfl, g5, hLw5, hA5, hf5, hr5, er, hrr⟩
        rw [xl, List.take_length] at er
        have rl : r.length = ws.length := by
          rw [← er, List.length_map]
        have gg := g.trans g5
        have hL5 := g5.2 _ _ hL1 LD
        refine ⟨_, rfl, .inl ⟨rfl, _, SqL.of hL5⟩, _, rfl, f, qs, rfl, .inl ⟨SqL.of hf5, fun pr hpr => ?_⟩⟩
        have gp := Go.new (o := .tup qs) g5.1 hpr
        have kp := Go.keepT g5.1 gp
        have hpr6 := upd_same (H := H5) (a := pr) (o := .tup qs)
        have hL6 := gp.2 _ _ hL5 LD
        generalize upd H5 pr (.tup qs) = H6 at gp kp hpr6 hL6
        have kL := keepT_nt (o := .lst (zs ++ [.ref pr])) (nt_lst _) hL6
        refine ⟨L, zs, _, rfl, rfl, hL6, line6 (by omega), _, _, _, zs ++ [.ref pr], C ++ [r], rfl, goU hL d (gg.trans gp), upd_same, ?_, by rw [List.length_append, hC]; rfl, fun x hx => ?_⟩
        · rw [List.map_append]
          exact dpA_snoc (dpA_keep kL _ _ (noLs_rw C) (dpA_keep (Go.keepT g.1 (g5.trans gp)) _ _ (noLs_rw C) hzs)) (dp_keep kL _ _ (dRw_noL _) (.tup (SqT.of hpr6) (dpA_keep kp _ _ (noLs_br r) hr5)))
        · rcases List.mem_append.mp hx with h | h
          · exact hCr x h
          · rw [List.mem_singleton.mp h]
            exact ⟨by omega, by omega, hrr, by rw [er]; exact hc⟩
    · rintro σ H1 ⟨y5, y6, y7, zs, C, rfl, g, hL1, hzs, hC, hCr⟩
      refine ⟨_, rfl, _, rfl, L, zs, rfl, .inl ⟨SqL.of hL1, fun pq hpq => ⟨by show 3 ≤ sizeLine; decide, fun pw hpw => ?_⟩⟩⟩
      have gq := Go.new (o := .tup zs) g.1 hpq
      have gw := gq.trans (Go.new (o := .tup [.str "chain", .int b, .ref pq]) gq.1 hpw)
      have hpq2 := same_new (o := .tup [.str "chain", .int b, .ref pq]) hpw _ _ (upd_same (H := H1) (a := pq) (o := .tup zs))
      refine q _ _ C (g.trans gw) (.tup (SqT.of upd_same) (.cons (.str _) (.cons (.int _) (.cons (.tup (SqT.of hpq2) (dpA_keep (Go.keepT g.1 gw) _ _ (noLs_rw C) hzs)) .nil)))) ⟨b2, b6, by omega, by omega, fun r hr => ?_⟩ hC
      rw [hC]
      exact hCr r hr
end
end Mt
namespace Mt
open PySem PySem.Spec PyProof.Rows L2
theorem getElem?_lt {α : Type} {l : List α} {i : Nat} (h : i < l.length) : l[i]? = some (l[i]'h) := List.getElem?_eq_getElem h
section
variable {P : Program} {w : World} {K : PySem.W.Frag} {mg : Str → Option Value} {base : Heap}
theorem ok__law_rich_chain (T : Txt K mg) (D__law_draw : Kept P w K mg base 1 "_law_draw" ["d", "many"] spDraw) (D__law_rare : Kept P w K mg base 2 "_law_rare" ["d", "many"] spRare) (D__law_wide_chain : Kept P w K mg base 4 "_law_wide_chain" ["d", "base", "states", "marks"] (spWChain K)) {f : Addr} {fd : FuncData} (F : FnP K "_law_rich_chain" s__law_rich_chain f fd) : FnOk P w K mg base CX0 5 f fd ["d", "marks", "most"] (spRChain K) := by
  refine F.ok sc__law_rich_chain (fun vs H Q E h => ?_) (fun cdv A outer s H vs Q E hr h => ?_)
  · obtain ⟨S, D, m, n, ms, rfl, _⟩ := h
    rfl
  · obtain ⟨S, D, m, n, ms, rfl, d, nD, hm, h0, h1, n1, n2, q⟩ := h
    refine ⟨_, PSs.nox (pss_cons (ps_set (i := 3) sc__law_rich_chain.nd rfl (Or.inl rfl) (pe_op op_add pe_int (pe_d D__law_draw (hr.mono (by decide)) (by rfl) (pa_cons (pv 0) (pa_cons pe_int pa_nil)))))
      (Evl.pss_cut (ps_if (pt_val (pe_d D__law_rare (hr.mono (by decide)) (by rfl) (pa_cons (pv 0) (pa_cons pe_int pa_nil)))) (pss_one (ps_set (i := 3) sc__law_rich_chain.nd rfl (Or.inl rfl) pe_int)) pss_nil)
      (pss_cons (ps_set (i := 4) sc__law_rich_chain.nd rfl (Or.inl rfl) (pe_op op_add pe_int (pe_d D__law_draw (hr.mono (by decide)) (by rfl) (pa_cons (pv 0) (pa_cons pe_int pa_nil)))))
      (Evl.pss_cut (ps_if (pt_val (pe_d D__law_rare (hr.mono (by decide)) (by rfl) (pa_cons (pv 0) (pa_cons pe_int pa_nil)))) (pss_one (ps_set (i := 4) sc__law_rich_chain.nd rfl (Or.inl rfl) (pv 2))) pss_nil)
      (pss_cons (ps_set (i := 5) sc__law_rich_chain.nd rfl (Or.inl rfl) (pe_d D__law_wide_chain (hr.mono (by decide)) (by rfl) (pa_cons (pv 0) (pa_cons (pv 3) (pa_cons (pv 4) (pa_cons (pv 1) pa_nil))))))
      (pss_cons (ps_if (pt_cmpR op_gt (pe_d D__law_draw (hr.mono (by decide)) (by rfl) (pa_cons (pv 0) (pa_cons pe_int pa_nil))) pe_int (nomark _)) (pss_one (ps_ret (pv 5))) pss_nil)
      (pss_cons (ps_set (i := 6) sc__law_rich_chain.nd rfl (Or.inl rfl) (pe_lst pa_nil))
      (pss_cons (ps_for PassesOwn.never rfl (pi_range1 (by rfl) T.b_range (pa_cons (pv 4) pa_nil)) (pg_name (i := 7) sc__law_rich_chain.nd rfl (Or.inl rfl)) (pss_cons (ps_set (i := 8) sc__law_rich_chain.nd rfl (Or.inl rfl) (pe_lst pa_nil))
      (pss_cons (ps_for PassesOwn.never rfl (pi_tup (pe_ix ix_tup (pe_ix ix_tup (pv 5) pe_int (fun _ _ => rfl)) (pv 7) (fun _ _ => rfl))) (pg_tup rfl (pgs_cons (pg_name (i := 9) sc__law_rich_chain.nd rfl (Or.inl rfl)) (pgs_cons (pg_name (i := 10) sc__law_rich_chain.nd rfl (Or.inl rfl)) (pgs_cons (pg_name (i := 11) sc__law_rich_chain.nd rfl (Or.inl rfl)) pgs_nil)))) (Evl.pss_cut (ps_if (pt_cmpR op_eq (pe_d D__law_draw (hr.mono (by decide)) (by rfl) (pa_cons (pv 0) (pa_cons pe_int pa_nil))) pe_int (nomark _)) (pss_one (ps_set (i := 11) sc__law_rich_chain.nd rfl (Or.inl rfl) (pe_op op_mod (pe_callTy call_int1 (by rfl) T.b_int (by decide +kernel) (pa_cons (pe_op op_add (pv 7) pe_int) pa_nil)) (pv 4)))) pss_nil)
      (pss_one (ps_expr (pe_bm PySem.F.plainAttrs_list PySem.F.slot_list_append PySem.F.type_list_append mt_append (pv 8) (pa_cons (pe_tup (pa_cons (pv 9) (pa_cons (pv 10) (pa_cons (pv 11) pa_nil)))) pa_nil))))))
      (pss_one (ps_expr (pe_bm PySem.F.plainAttrs_list PySem.F.slot_list_append PySem.F.type_list_append mt_append (pv 6) (pa_cons (pe_callTy (tupOfT (K := K) rfl) (by rfl) T.b_tuple (by decide +kernel) (pa_cons (pv 8) pa_nil)) pa_nil)))))))
      (pss_one (ps_ret (pe_tup (pa_cons pe_str (pa_cons (pv 3) (pa_cons (pe_callTy (tupOfT (K := K) rfl) (by rfl) T.b_tuple (by decide +kernel) (pa_cons (pv 6) pa_nil)) pa_nil)))))))))))))), ?_⟩
    refine ⟨_, rfl, S, D, 2, rfl, divW_of (by decide) (by decide), d, fun H1 v v0 v1 g1 => ⟨_, _, rfl, rfl, ?_⟩⟩
    refine ⟨fun σ' H' => ∃ b : Int, σ' = [some (.ref D), some (.ref m), some (.int n), some (.int b), none, none, none, none, none, none, none, none] ∧ 2 ≤ b ∧ b ≤ 6 ∧ Go S D H H', ?_, ?_⟩
    · refine ⟨_, rfl, S, D, 7, rfl, by decide, by decide, g1.1, fun H2 bb g2 => ?_⟩
      exact ⟨_, rfl, ite2 (fun _ => ⟨6, rfl, by decide, by decide, g1.trans g2⟩) (fun _ => ⟨2 + v, rfl, by omega, by omega, g1.trans g2⟩)⟩
    · rintro σ' H2 ⟨b, rfl, b2, b6, g2⟩
      refine ⟨_, rfl, S, D, 5, rfl, divW_of (by decide) (by decide), g2.1, fun H3 u u0 u1 g3 => ⟨_, _, rfl, rfl, ?_⟩⟩
      have g3 := g2.trans g3
      refine ⟨fun σ' H' => ∃ c : Int, σ' = [some (.ref D), some (.ref m), some (.int n), some (.int b), some (.int c), none, none, none, none, none, none, none] ∧ 1 ≤ c ∧ c ≤ 20 ∧ Go S D H H', ?_, ?_⟩
      · refine ⟨_, rfl, S, D, 9, rfl, by decide, by decide, g3.1, fun H4 bb g4 => ?_⟩
        exact ⟨_, rfl, ite2 (fun _ => ⟨_, rfl, n, rfl, n1, n2, g3.trans g4⟩) (fun _ => ⟨1 + u, rfl, by omega, by omega, g3.trans g4⟩)⟩
      · rintro σ' H4 ⟨c, rfl, c1, c2, g4⟩
        refine ⟨_, rfl, _, rfl, _, rfl, _, rfl, S, D, m, b, c, ms, rfl, g4.1, nD, g4.2 _ _ hm nD, h0, h1, b2, b6, c1, c2, fun H5 vc C g5 hC okC lC => ?_⟩
        have g5 := g4.trans g5
        refine ⟨_, rfl, S, D, 3, rfl, divW_of (by decide) (by decide), g5.1, fun H6 x x0 x1 g6 => ⟨_, _, rfl, rfl, ?_⟩⟩
        have hC6 := dp_keep (Go.keepT g5.1 g6) _ _ (dChn_noL b C) hC
        have g6 := g5.trans g6
        refine ⟨_, rfl, ite2 (fun _ => ⟨_, rfl, q H6 vc b C g6 hC6 okC⟩) (fun _ => ⟨Nat.zero_le _, fun L hL => ?_⟩)⟩
        have gL := Go.new (o := .lst []) g6.1 hL
        have LD := (g6.1.free hL).1
        have L0 := g6.free d hL
        have hC7 := dp_keep (Go.keepT g6.1 gL) _ _ (dChn_noL b C) hC6
        have hL7 := upd_same (H := H6) (a := L) (o := .lst [])
        generalize upd H6 L (.lst []) = H7 at gL hC7 hL7
        have g7 := g6.trans gL
        refine ⟨_, rfl, _, rfl, by omega, by omega, for_range (lo := 0) (n := c.toNat) (fun i σ H' => ∃ (y7 y8 y9 y10 y11 : Option V) (zs : List V) (R : Chn), σ = [some (.ref D), some (.ref m), some (.int n), some (.int b), some (.int c), some vc, some (.ref L), y7, y8, y9, y10, y11] ∧ Go S D H H' ∧ H' L = some (.lst zs) ∧ DpAll K H' zs (R.map dRw) ∧ Dp K H' vc (dChn b C) ∧ R.length = i ∧ ∀ r ∈ R, RwOk b c.toNat r) ⟨_, _, _, _, _, [], [], rfl, g7, hL7, .nil, hC7, rfl, fun _ h => absurd h List.not_mem_nil⟩ ?_ ?_⟩
        · rintro i σ H8 hi ⟨y7, y8, y9, y10, y11, zs, R, rfl, g8, hL8, hzs, hC8, lR, okR⟩
          have zl := dpA_len hzs
          rw [List.length_map] at zl
          refine ⟨Nat.zero_le _, fun f hf => ?_⟩
          have gf := Go.new (o := .lst []) g8.1 hf
          have fD := (g8.1.free hf).1
          have fL : f ≠ L := (ne_of_none hL8 hf).symm
          have hf9 := upd_same (H := H8) (a := f) (o := .lst [])
          have hC9 := dp_keep (Go.keepT g8.1 gf) _ _ (dChn_noL b C) hC8
          generalize upd H8 f (.lst []) = H9 at gf hf9 hC9
          obtain ⟨pc, pq, xs, rfl, hpc, hpq, hA⟩ := chn_at hC9
          obtain ⟨r, hr1⟩ : ∃ r, C[i]? = some r := ⟨_, getElem?_lt (by omega)⟩
          obtain ⟨xr, hxr, hdr⟩ := dpA_get hA hr1
          have okr := okC.row r (List.mem_of_getElem? hr1)
          rw [lC] at okr
          obtain ⟨pr, rs, rfl, hpr, hrs⟩ := dp_tup hdr
          have rl := dpA_len hrs
          rw [List.length_map] at rl
          refine ⟨_, rfl, pc, _, _, _, rfl, rfl, hpc, atI_nat (j := 2) rfl, _, rfl, pq, xs, _, _, rfl, rfl, hpq, (by rw [Int.zero_add]; exact atI_nat hxr), pr, rfl, ⟨_, hpr⟩, ?_⟩
          refine for_tup (K := K) (a := pr) (xs := rs) (fun j σ H' => ∃ (y9 y10 y11 : Option V) (qs : List V) (u : List Br), σ = [some (.ref D), some (.ref m), some (.int n), some (.int b), some (.int c), some (.ref pc), some (.ref L), some (.int (0 + (i : Int))), some (.ref f), y9, y10, y11] ∧ Go S D H8 H' ∧ KeepT H9 H' ∧ H' f = some (.lst qs) ∧ DpAll K H' qs (u.map dBr) ∧ u.map (·.1) = (r.map (·.1)).take j ∧ ∀ b ∈ u, b.2.2 < c.toNat ∧ b.2.1.length ≤ 6) ⟨_, _, _, [], [], rfl, gf, fun _ _ h => h, hf9, .nil, rfl, fun _ h => absurd h List.not_mem_nil⟩ (fun j σ H' _ ⟨_, _, _, _, _, _, _, k, _⟩ => sqt_keep k hpr) ?_ ?_
          · rintro j x σ H10 hj ⟨y9, y10, y11, qs, u, rfl, g10, k10, hf10, hu, eu, hub⟩
            have jl := (List.getElem?_eq_some_iff.mp hj).1
            obtain ⟨br, hbr, hx⟩ := dpA_mem (dpA_keep k10 _ _ (noLs_br r) hrs) hj
            obtain ⟨pb, x0', x1', rfl, hpb, hd0, hd1⟩ := br_at hx
            have okb := okr.to br (List.mem_of_getElem? hbr)
            have ul : u.length = j := by
              have := congrArg List.length eu
              rw [List.length_map, List.length_take, List.length_map] at this
              omega
            have ql := dpA_len hu
            rw [List.length_map] at ql
            refine ⟨_, _, rfl, hpb, rfl, _, _, rfl, _, _, rfl, _, _, rfl, rfl, ?_⟩
            refine ⟨fun σ' H' => ∃ t : Int, σ' = [some (.ref D), some (.ref m), some (.int n), some (.int b), some (.int c), some (.ref pc), some (.ref L), some (.int (0 + (i : Int))), some (.ref f), some x0', some x1', some (.int t)] ∧ 0 ≤ t ∧ t < c ∧ Go S D H10 H', ?_, ?_⟩
            · refine ⟨_, rfl, S, D, 2, rfl, divW_of (by decide) (by decide), g10.1, fun H11 v v0 v1 g11 => ⟨rfl, ?_⟩⟩
              refine ⟨_, rfl, ite2 (fun _ => ?_) (fun _ => ⟨_, rfl, by omega, by have := okb.1; omega, g11⟩)⟩
              exact ⟨_, rfl, _, _, rfl, rfl, .inl ⟨_, rfl, _, rfl, _, _, rfl, rfl, by omega, _, rfl, Int.emod_nonneg _ (by omega), Int.emod_lt_of_pos _ (by omega), g11⟩⟩
            · rintro σ' H11 ⟨t, rfl, t0, t1, g11⟩
              refine ⟨_, rfl, .inl ⟨rfl, _, SqL.of (g11.2 _ _ hf10 fD)⟩, _, rfl, _, rfl, _, rfl, by show 3 ≤ sizeLine; decide, fun pn hpn => ?_⟩
              have gb := g11.trans (Go.new (o := .tup [x0', x1', .int t]) g11.1 hpn)
              have hpb8 := upd_same (H := H11) (a := pn) (o := .tup [x0', x1', .int t])
              generalize upd H11 pn (.tup [x0', x1', .int t]) = H12 at gb hpb8
              have k12 := Go.keepT g10.1 gb
              have hf12 := gb.2 _ _ hf10 fD
              have kf := keepT_nt (o := .lst (qs ++ [.ref pn])) (nt_lst _) hf12
              have dB : Dp K H12 (.ref pn) (dBr (br.1, br.2.1, t.toNat)) := by
                have e1 : PyData.int ((t.toNat : Nat) : Int) = .int t := by rw [Int.toNat_of_nonneg t0]
                show Dp K H12 (.ref pn) (.tuple [dI br.1, dSh br.2.1, .int ((t.toNat : Nat) : Int)])
                rw [e1]
                exact .tup (SqT.of hpb8) (.cons (dp_keep k12 _ _ (dI_noL _) hd0) (.cons (dp_keep k12 _ _ (dSh_noL _) hd1) (.cons (.int _) .nil)))
              refine ⟨f, qs, _, rfl, rfl, hf12, line6 (by have := okr.few; omega), _, _, _, qs ++ [.ref pn], u ++ [(br.1, br.2.1, t.toNat)], rfl, goU hf g8.1 (g10.trans gb), (k10.trans k12).trans kf, upd_same, ?_, ?_, fun y hy => ?_⟩
              · rw [List.map_append]
                exact dpA_snoc (dpA_keep kf _ _ (noLs_br u) (dpA_keep k12 _ _ (noLs_br u) hu)) (dp_keep kf _ _ (dBr_noL _) dB)
              · rw [List.map_append, eu, List.take_add_one, List.getElem?_map, hbr]
                rfl
              · rcases List.mem_append.mp hy with h | h
                · exact hub y h
                · rw [List.mem_singleton.mp h]
                  exact ⟨by show t.toNat < c.toNat; omega, okb.2⟩
          · rintro σ H10 ⟨y9, y10, y11, qs, u, rfl, g10, k10, hf10, hu, eu, hub⟩
            rw [rl, ← List.length_map, List.take_length] at eu
            have ul : u.length = r.length := by
              have := congrArg List.length eu
              rw [List.length_map, List.length_map] at this
              exact this
            have gg := g8.trans g10
            have hL10 := g10.2 _ _ hL8 LD
            refine ⟨_, rfl, .inl ⟨rfl, _, SqL.of hL10⟩, _, rfl, f, qs, rfl, .inl ⟨SqL.of hf10, fun pr hpr => ?_⟩⟩
            have gp := Go.new (o := .tup qs) g10.1 hpr
            have kp := Go.keepT g10.1 gp
            have hpr6 := upd_same (H := H10) (a := pr) (o := .tup qs)
            have hL6 := gp.2 _ _ hL10 LD
            have hC11 := dp_keep (Go.keepT g8.1 (g10.trans gp)) _ _ (dChn_noL b C) hC8
            generalize upd H10 pr (.tup qs) = H11 at gp kp hpr6 hL6 hC11
            have kL := keepT_nt (o := .lst (zs ++ [.ref pr])) (nt_lst _) hL6
            refine ⟨L, zs, _, rfl, rfl, hL6, line6 (by omega), _, _, _, _, _, zs ++ [.ref pr], R ++ [u], rfl, goU L0 d (gg.trans gp), upd_same, ?_, dp_keep kL _ _ (dChn_noL b C) hC11, by rw [List.length_append, lR]; rfl, fun x hx => ?_⟩
            · rw [List.map_append]
              exact dpA_snoc (dpA_keep kL _ _ (noLs_rw R) (dpA_keep (Go.keepT g8.1 (g10.trans gp)) _ _ (noLs_rw R) hzs)) (dp_keep kL _ _ (dRw_noL _) (.tup (SqT.of hpr6) (dpA_keep kp _ _ (noLs_br u) hu)))
            · rcases List.mem_append.mp hx with h | h
              · exact okR x h
              · rw [List.mem_singleton.mp h]
                exact ⟨by rw [ul]; exact okr.ne, by rw [ul]; exact okr.few, hub, by rw [eu]; exact okr.cm⟩
        · rintro σ H8 ⟨y7, y8, y9, y10, y11, zs, R, rfl, g8, hL8, hzs, hC8, lR, okR⟩
          refine ⟨_, rfl, _, rfl, L, zs, rfl, .inl ⟨SqL.of hL8, fun pq hpq => ⟨by show 3 ≤ sizeLine; decide, fun pw hpw => ?_⟩⟩⟩
          have gq := Go.new (o := .tup zs) g8.1 hpq
          have gw := gq.trans (Go.new (o := .tup [.str "chain", .int b, .ref pq]) gq.1 hpw)
          have hpq2 := same_new (o := .tup [.str "chain", .int b, .ref pq]) hpw _ _ (upd_same (H := H8) (a := pq) (o := .tup zs))
          refine q _ _ b R (g8.trans gw) (.tup (SqT.of upd_same) (.cons (.str _) (.cons (.int _) (.cons (.tup (SqT.of hpq2) (dpA_keep (Go.keepT g8.1 gw) _ _ (noLs_rw R) hzs)) .nil)))) ⟨b2, b6, by omega, by omega, fun r hr => ?_⟩
          rw [lR]
          exact okR r hr
end
end Mt
namespace Mt
open PySem PySem.Spec PyProof.Rows L2
theorem tupKK {X : Cx} {K : PySem.W.Frag} (h : X.K = K) : CallR X (.type "tuple") (fun xs H Q => ∃ p ys, xs = [.ref p] ∧ SqL K H p ys ∧ ∀ l (o : Obj), H l = none → o.dict = none → Q (.ref l) (upd H l (.frz o (.tup ys)))) := h ▸ SR.cr_tupleK
/-- worths: a tuple of pairs -/
def WAt (K : PySem.W.Frag) (H : Hp) (v : V) (W : List (Str × Int)) : Prop := ∃ (a : Addr) (ps : List SR.Ptr), v = .ref a ∧ SR.TupK H a (ps.map fun p => V.ref p.1) ∧ (∀ p ∈ ps, SqT K H p.1 [.str p.2.1, .int p.2.2]) ∧ ps.map (·.2) = W
theorem WAt.same {K : PySem.W.Frag} {H H' : Hp} {v : V} {W : List (Str × Int)} (s : Same H H') (h : WAt K H v W) : WAt K H' v W := by
  obtain ⟨a, ps, e, ⟨o, h1, h2⟩, h3, h4⟩ := h
  exact ⟨a, ps, e, ⟨o, s _ _ h1, h2⟩, fun p hp => same_t s (h3 p hp), h4⟩
theorem WAt.go {K : PySem.W.Frag} {S D : Addr} {H H' : Hp} {v : V} {W : List (Str × Int)} (d : DrawAt S D H) (g : Go S D H H') (h : WAt K H v W) : WAt K H' v W := by
  obtain ⟨a, ps, e, ⟨o, h1, h2⟩, h3, h4⟩ := h
  have n : a ≠ D := fun e => by
    obtain ⟨_, _, _, _, hD⟩ := d.at_
    rw [e, hD] at h1
    cases h1
  exact ⟨a, ps, e, ⟨o, g.2 _ _ h1 n, h2⟩, fun p hp => sqt_keep (Go.keepT d g) (h3 p hp), h4⟩
def spWorths (K : PySem.W.Frag) : Sp := fun vs H Q _ => ∃ (S D m : Addr) (ms : List Str), vs = [.ref D, .ref m] ∧ DrawAt S D H ∧ m ≠ D ∧ H m = some (.lst (ms.map V.str)) ∧ ms.Nodup ∧ ms.length ≤ 100 ∧
  ∀ (H' : Hp) (v : V) (W : List (Str × Int)), Go S D H H' → WAt K H' v W → (W.map (·.1)).Nodup → W.length ≤ 100 → Q v H'
def dPr (z : Str × Int) : PyData := .tuple [.str z.1, .int z.2]
theorem srt_prs (l : List (Str × Int)) : SR.SrtOk (l.map dPr) := by
  refine ⟨PySem.W.AllAlike.of fun a b => ?_, .inl (.inl fun d hd => ?_), fun d hd => ?_⟩
  · show PySem.W.alike (dPr a) (dPr b) = true
    simp [dPr, PySem.W.alike, PySem.W.alikeAll]
  · obtain ⟨w, hw, rfl⟩ := List.mem_map.mp hd
    exact ⟨_, _, rfl⟩
  · obtain ⟨w, hw, rfl⟩ := List.mem_map.mp hd
    simp [dPr, PyData.depth, PyData.depthAll]
section
variable {P : Program} {w : World} {K : PySem.W.Frag} {mg : Str → Option Value} {base : Heap}
theorem ok__law_drawn_worths (T : Txt K mg) (D__law_draw : Kept P w K mg base 1 "_law_draw" ["d", "many"] spDraw) (D__law_pick : Kept P w K mg base 2 "_law_pick" ["d", "row"] (spPick K)) {f : Addr} {fd : FuncData} (F : FnP K "_law_drawn_worths" s__law_drawn_worths f fd) : FnOk P w K mg base CX0 3 f fd ["d", "marks"] (spWorths K) := by
  refine F.ok sc__law_drawn_worths (fun vs H Q E h => ?_) (fun cdv A outer s H vs Q E hr h => ?_)
  · obtain ⟨S, D, m, ms, rfl, _⟩ := h
    rfl
  · obtain ⟨S, D, m, ms, rfl, d, nD, hm, nd, hl, q⟩ := h
    refine ⟨_, PSs.nox (pss_cons (ps_set (i := 2) sc__law_drawn_worths.nd rfl (Or.inl rfl) (pe_lst pa_nil))
      (pss_cons (ps_for PassesOwn.never rfl (pi_list (pv 1)) (pg_name (i := 3) sc__law_drawn_worths.nd rfl (Or.inl rfl)) (pss_cons (ps_set (i := 4) sc__law_drawn_worths.nd rfl (Or.inl rfl) (pe_d D__law_draw (hr.mono (by decide)) (by rfl) (pa_cons (pv 0) (pa_cons pe_int pa_nil))))
      (pss_one (ps_if (pt_cmpR op_eq (pv 4) pe_int (nomark _)) (pss_one (ps_expr (pe_bm PySem.F.plainAttrs_list PySem.F.slot_list_append PySem.F.type_list_append mt_append (pv 2) (pa_cons (pe_tup (pa_cons (pv 3) (pa_cons (pe_d D__law_pick (hr.mono (by decide)) (by rfl) (pa_cons (pv 0) (pa_cons (pe_lst (pa_cons (pe_un un_neg pe_int) (pa_cons pe_int pa_nil))) pa_nil))) pa_nil))) pa_nil)))) (pss_one (ps_if (pt_cmpR op_eq (pv 4) pe_int (nomark _)) (pss_one (ps_expr (pe_bm PySem.F.plainAttrs_list PySem.F.slot_list_append PySem.F.type_list_append mt_append (pv 2) (pa_cons (pe_tup (pa_cons (pv 3) (pa_cons (pe_op op_sub (pe_d D__law_draw (hr.mono (by decide)) (by rfl) (pa_cons (pv 0) (pa_cons pe_int pa_nil))) pe_int) pa_nil))) pa_nil)))) (pss_one (ps_if (pt_cmpR op_gt (pv 4) pe_int (nomark _)) (pss_one (ps_expr (pe_bm PySem.F.plainAttrs_list PySem.F.slot_list_append PySem.F.type_list_append mt_append (pv 2) (pa_cons (pe_tup (pa_cons (pv 3) (pa_cons (pe_op op_sub (pe_d D__law_draw (hr.mono (by decide)) (by rfl) (pa_cons (pv 0) (pa_cons pe_int pa_nil))) pe_int) pa_nil))) pa_nil)))) pss_nil))))))))
      (pss_one (ps_ret (pe_callTy (tupKK (K := K) rfl) (by rfl) T.b_tuple (by decide +kernel) (pa_cons (pe_callB (srtK (K := K) rfl hr.units) (by rfl) T.b_sorted (by decide +kernel) (pa_cons (pv 2) pa_nil)) pa_nil)))))), ?_⟩
    refine ⟨Nat.zero_le _, fun L hL => ?_⟩
    have gL := Go.new (o := .lst []) d hL
    have LD := (d.free hL).1
    have hL7 := upd_same (H := H) (a := L) (o := .lst [])
    generalize upd H L (.lst []) = H7 at gL hL7
    refine ⟨_, rfl, m, rfl, ⟨_, SqL.of (gL.2 _ _ hm nD)⟩, for_list (K := K) (a := m) (xs := ms.map V.str) (fun i σ H' => ∃ (y3 y4 : Option V) (ps : List SR.Ptr), σ = [some (.ref D), some (.ref m), some (.ref L), y3, y4] ∧ Go S D H H' ∧ H' L = some (.lst (ps.map fun p => .ref p.1)) ∧ (∀ p ∈ ps, SqT K H' p.1 [.str p.2.1, .int p.2.2]) ∧ (ps.map (·.2.1)).Sublist (ms.take i)) ⟨_, _, [], rfl, gL, hL7, fun _ h => absurd h List.not_mem_nil, List.nil_sublist _⟩ (fun i σ H' _ ⟨_, _, _, _, g, _⟩ => SqL.of (g.2 _ _ hm nD)) ?_ ?_⟩
    · rintro i x σ H8 hi ⟨y3, y4, ps, rfl, g8, hL8, hps, hsub⟩
      obtain ⟨z, hz, rfl⟩ : ∃ z, ms[i]? = some z ∧ .str z = x := by
        rw [List.getElem?_map] at hi
        cases e : ms[i]? with
        | none =>
          rw [e] at hi
          cases hi
        | some z =>
          rw [e] at hi
          exact ⟨z, rfl, Option.some.inj hi⟩
      have il := (List.getElem?_eq_some_iff.mp hz).1
      have pl := hsub.length_le
      rw [List.length_map, List.length_take] at pl
      have et : ms.take (i + 1) = ms.take i ++ [z] := by
        rw [List.take_add_one, hz]
        rfl
      have addp : ∀ (H9 : Hp) (i9 : Int) (p : Addr), Go S D H8 H9 → H9 p = none → upd H9 p (.tup [.str z, .int i9]) L = some (.lst (ps.map fun p => .ref p.1)) ∧ (ps.map fun p => V.ref p.1).length < sizeLine ∧
          ∃ ps2 : List SR.Ptr, Go S D H (upd (upd H9 p (.tup [.str z, .int i9])) L (.lst ((ps.map fun p => V.ref p.1) ++ [.ref p]))) ∧ upd (upd H9 p (.tup [.str z, .int i9])) L (.lst ((ps.map fun p => V.ref p.1) ++ [.ref p])) L = some (.lst (ps2.map fun p => .ref p.1)) ∧ (∀ q ∈ ps2, SqT K (upd (upd H9 p (.tup [.str z, .int i9])) L (.lst ((ps.map fun p => V.ref p.1) ++ [.ref p]))) q.1 [.str q.2.1, .int q.2.2]) ∧ (ps2.map (·.2.1)).Sublist (ms.take (i + 1)) := by
        intro H9 i9 p g9 hp
        have gp := g9.trans (Go.new (o := .tup [.str z, .int i9]) g9.1 hp)
        have hL10 := gp.2 _ _ hL8 LD
        have hp10 := upd_same (H := H9) (a := p) (o := .tup [.str z, .int i9])
        generalize upd H9 p (.tup [.str z, .int i9]) = H10 at gp hL10 hp10
        have kL := keepT_nt (o := .lst ((ps.map fun p => V.ref p.1) ++ [.ref p])) (nt_lst _) hL10
        refine ⟨hL10, by rw [List.length_map]; exact line6 (by omega), ps ++ [(p, z, i9)], goU hL d (g8.trans gp), by rw [upd_same, List.map_append]; rfl, fun q hq => ?_, ?_⟩
        · rcases List.mem_append.mp hq with h | h
          · exact sqt_keep kL (sqt_keep (Go.keepT g8.1 gp) (hps q h))
          · rw [List.mem_singleton.mp h]
            exact sqt_keep kL (SqT.of hp10)
        · rw [et, List.map_append]
          exact hsub.append (List.Sublist.refl _)
      refine ⟨_, rfl, S, D, 6, rfl, divW_of (by decide) (by decide), g8.1, fun H9 v v0 v1 g9 => ?_⟩
      refine ⟨_, rfl, rfl, _, rfl, ite2 (fun _ => ?_) (fun _ => ⟨_, rfl, rfl, _, rfl, ite2 (fun _ => ?_) (fun _ => ⟨_, rfl, _, _, rfl, rfl, _, rfl, ite2 (fun _ => ?_) (fun _ => ?_)⟩)⟩)⟩
      · refine ⟨_, rfl, .inl ⟨rfl, _, SqL.of (g9.2 _ _ hL8 LD)⟩, _, rfl, _, rfl, _, rfl, by show 2 ≤ sizeLine; decide, fun l hl0 => ?_⟩
        have gl := g9.trans (Go.new (o := .lst [V.int (-99), .int 99]) g9.1 hl0)
        have hl1 := upd_same (H := H9) (a := l) (o := .lst [V.int (-99), .int 99])
        have lD := (g9.1.free hl0).1
        refine ⟨S, D, .ref l, [V.int (-99), .int 99], rfl, gl.1, fun H' g => .inr (.inl ⟨l, rfl, SqL.of (g.2 _ _ hl1 lD)⟩), by decide, by decide, fun H10 x hx g10 => ?_⟩
        obtain ⟨i9, rfl⟩ : ∃ i9 : Int, x = .int i9 := by
          simp only [List.mem_cons, List.not_mem_nil, or_false] at hx
          rcases hx with e | e
          · exact ⟨_, e⟩
          · exact ⟨_, e⟩
        refine ⟨by show 2 ≤ sizeLine; decide, fun p hp => ?_⟩
        obtain ⟨a1, a2, ps2, a3, a4, a5, a6⟩ := addp H10 i9 p (gl.trans g10) hp
        exact ⟨L, _, _, rfl, rfl, a1, a2, _, _, ps2, rfl, a3, a4, a5, a6⟩
      · refine ⟨_, rfl, .inl ⟨rfl, _, SqL.of (g9.2 _ _ hL8 LD)⟩, _, rfl, _, rfl, S, D, 199, rfl, divW_of (by decide) (by decide), g9.1, fun H10 u u0 u1 g10 => ⟨_, _, rfl, rfl, by show 2 ≤ sizeLine; decide, fun p hp => ?_⟩⟩
        obtain ⟨a1, a2, ps2, a3, a4, a5, a6⟩ := addp H10 _ p (g9.trans g10) hp
        exact ⟨L, _, _, rfl, rfl, a1, a2, _, _, ps2, rfl, a3, a4, a5, a6⟩
      · refine ⟨_, rfl, .inl ⟨rfl, _, SqL.of (g9.2 _ _ hL8 LD)⟩, _, rfl, _, rfl, S, D, 7, rfl, divW_of (by decide) (by decide), g9.1, fun H10 u u0 u1 g10 => ⟨_, _, rfl, rfl, by show 2 ≤ sizeLine; decide, fun p hp => ?_⟩⟩
        obtain ⟨a1, a2, ps2, a3, a4, a5, a6⟩ := addp H10 _ p (g9.trans g10) hp
        exact ⟨L, _, _, rfl, rfl, a1, a2, _, _, ps2, rfl, a3, a4, a5, a6⟩
      · refine ⟨_, _, ps, rfl, g8.trans g9, g9.2 _ _ hL8 LD, fun p hp => sqt_keep (Go.keepT g8.1 g9) (hps p hp), ?_⟩
        rw [et]
        exact hsub.trans (List.sublist_append_left _ _)
    · rintro σ H8 ⟨y3, y4, ps, rfl, g8, hL8, hps, hsub⟩
      rw [List.length_map, List.take_length] at hsub
      have pl := hsub.length_le
      rw [List.length_map] at pl
      refine ⟨_, rfl, L, ps.map fun p => (V.ref p.1, dPr p.2), rfl, SqL.of (by rw [List.map_map]; exact hL8), fun b hb => ?_, ?_, fun ys q0 hy hq0 => ?_⟩
      · obtain ⟨p, hp, rfl⟩ := List.mem_map.mp hb
        exact .tup (hps p hp) (.cons (.str _) (.cons (.int _) .nil))
      · rw [List.map_map, show ((fun x : V × PyData => x.2) ∘ fun p : SR.Ptr => (V.ref p.1, dPr p.2)) = dPr ∘ (fun p : SR.Ptr => p.2) from rfl, ← List.map_map]
        exact srt_prs _
      · obtain ⟨ps2, hperm, rfl⟩ := perm_back hy
        have g9 := Go.new (o := .lst ((ps2.map fun p => (V.ref p.1, dPr p.2)).map (·.1))) g8.1 hq0
        refine ⟨q0, _, rfl, SqL.of upd_same, fun t o ht ho => ?_⟩
        have g10 := g9.trans (Go.new (o := .frz o (.tup ((ps2.map fun p => (V.ref p.1, dPr p.2)).map (·.1)))) g9.1 ht)
        refine q _ _ (ps2.map (·.2)) (g8.trans g10) ⟨t, ps2, rfl, ⟨o, by rw [upd_same, List.map_map]; rfl, ho⟩, fun p hp => sqt_keep (Go.keepT g8.1 g10) (hps p (hperm.mem_iff.mp hp)), rfl⟩ ?_ (by rw [List.length_map, hperm.length_eq]; omega)
        rw [List.map_map]
        exact ((hperm.map (fun p : SR.Ptr => p.2.1)).nodup_iff).mpr (hsub.nodup nd)
end
end Mt
namespace Mt
open PySem PySem.Spec PyProof.Rows L2
mutual
theorem dp_same {K : PySem.W.Frag} {H H' : Hp} (s : Same H H') : ∀ (d : PyData) (v : V), Dp K H v d → Dp K H' v d
  | .none, _, h => by
    cases h
    exact .non
  | .bool b, _, h => by
    cases h
    exact .bl b
  | .int i, _, h => by
    cases h
    exact .int i
  | .str x, _, h => by
    cases h
    exact .str x
  | .list ds, _, h => by
    cases h with
    | lst h1 h2 => exact .lst (same_l s h1) (dpA_same s ds _ h2)
  | .dict ds, n, h => by
    cases h
  | .tuple ds, _, h => by
    cases h with
    | tup h1 h2 => exact .tup (same_t s h1) (dpA_same s ds _ h2)
theorem dpA_same {K : PySem.W.Frag} {H H' : Hp} (s : Same H H') : ∀ (ds : List PyData) (xs : List V), DpAll K H xs ds → DpAll K H' xs ds
  | [], _, h => by
    cases h
    exact .nil
  | d :: ds, _, h => by
    cases h with
    | cons h1 h2 => exact .cons (dp_same s d _ h1) (dpA_same s ds _ h2)
end
theorem dp_lst {K : PySem.W.Frag} {H : Hp} {v : V} {ds : List PyData} (h : Dp K H v (.list ds)) : ∃ a xs, v = .ref a ∧ SqL K H a xs ∧ DpAll K H xs ds := by
  cases h with
  | lst h1 h2 => exact ⟨_, _, rfl, h1, h2⟩
/-- a list that is being filled while nothing else changes -/
theorem same_add {K : PySem.W.Frag} {H0 H : Hp} {L : Addr} {zs : List V} {x : V} {ds : List PyData} {d : PyData} (h0 : H0 L = none) (s : Same H0 H) (hA : DpAll K H0 [] []) : Same H0 (upd H L (.lst (zs ++ [x]))) := same_mut s h0
/-! ### worths of what is shown -/
def look (W : List (Str × Int)) (z : Str) : Int := ((W.find? fun e => decide (e.1 = z)).map (·.2)).getD 0
def wv (W : List (Str × Int)) (ss : List Str) : Int := (ss.map (look W)).sum
def cnt (z : Str) (ss : List Str) : Int := ((ss.filter fun o => decide (o = z)).length : Int)
theorem look_none {W : List (Str × Int)} {z : Str} (h : z ∉ W.map (·.1)) : look W z = 0 := by
  unfold look
  rw [List.find?_eq_none.mpr fun e he => ?_]
  · rfl
  · intro k
    exact h (List.mem_map.mpr ⟨e, he, of_decide_eq_true k⟩)
theorem look_cons {e : Str × Int} {W : List (Str × Int)} (h : e.1 ∉ W.map (·.1)) (z : Str) : look (e :: W) z = (if z = e.1 then e.2 else 0) + look W z := by
  by_cases k : z = e.1
  · rw [if_pos k, k, look_none h]
    unfold look
    rw [List.find?_cons_of_pos (by simp)]
    simp
  · rw [if_neg k, Int.zero_add]
    unfold look
    rw [List.find?_cons_of_neg (by simpa using fun h => k h.symm)]
theorem wv_nil (ss : List Str) : wv [] ss = 0 := by
  induction ss with
  | nil => rfl
  | cons a r ih =>
    show look [] a + wv [] r = 0
    rw [ih]
    rfl
theorem wv_cons {e : Str × Int} {W : List (Str × Int)} (h : e.1 ∉ W.map (·.1)) (ss : List Str) : wv (e :: W) ss = e.2 * cnt e.1 ss + wv W ss := by
  induction ss with
  | nil => simp [wv, cnt]
  | cons a r ih =>
    have h1 : wv (e :: W) (a :: r) = look (e :: W) a + wv (e :: W) r := rfl
    have h2 : wv W (a :: r) = look W a + wv W r := rfl
    rw [h1, h2, ih, look_cons h]
    have h3 : cnt e.1 (a :: r) = (if a = e.1 then 1 else 0) + cnt e.1 r := by
      unfold cnt
      by_cases k : a = e.1
      · rw [List.filter_cons_of_pos (by simpa using k), if_pos k, List.length_cons]
        omega
      · rw [List.filter_cons_of_neg (by simpa using k), if_neg k]
        omega
    rw [h3]
    split
    · rw [Int.mul_add]
      omega
    · simp only [Int.zero_add]
      omega
theorem wv_law : ∀ {W : List (Str × Int)}, (W.map (·.1)).Nodup → ∀ ss : List Str, wv W ss = (W.map fun e => e.2 * cnt e.1 ss).sum
  | [], _, ss => wv_nil ss
  | e :: W, nd, ss => by
    have nd2 : e.1 ∉ W.map (·.1) ∧ (W.map (·.1)).Nodup := List.nodup_cons.mp nd
    rw [wv_cons nd2.1, wv_law nd2.2]
    rfl
theorem valV_merge : ∀ (ps : List (Str × Int)) (acc : List (L2.Key × V)) (z : Str), (ps.map (·.1)).Nodup → (valV (mergeK acc (ps.map fun p => ((.inr p.1 : L2.Key), V.int p.2))) (.inr z)) = match ps.find? fun e => decide (e.1 = z) with
      | some e => some (.int e.2)
      | none => valV acc (.inr z)
  | [], _, _, _ => rfl
  | p :: r, acc, z, nd => by
    have nd2 : p.1 ∉ r.map (·.1) ∧ (r.map (·.1)).Nodup := List.nodup_cons.mp nd
    have e : mergeK acc ((p :: r).map fun p => ((.inr p.1 : L2.Key), V.int p.2)) = mergeK (putK acc (.inr p.1) (.int p.2)) (r.map fun p => ((.inr p.1 : L2.Key), V.int p.2)) := rfl
    rw [e, valV_merge r _ z nd2.2, valV_put]
    by_cases k : p.1 = z
    · rw [List.find?_cons_of_pos (by simpa using k)]
      have : r.find? (fun e => decide (e.1 = z)) = none := List.find?_eq_none.mpr fun e he q => nd2.1 (List.mem_map.mpr ⟨e, he, (of_decide_eq_true q).trans k.symm⟩)
      rw [this, if_pos (by rw [k])]
    · rw [List.find?_cons_of_neg (by simpa using k)]
      have : ¬ (Sum.inr z : L2.Key) = .inr p.1 := fun h => k (Sum.inr.inj h).symm
      rw [if_neg this]
theorem get_table {W : List (Str × Int)} (nd : (W.map (·.1)).Nodup) (z : Str) : (valV (mergeK [] (W.map fun p => ((.inr p.1 : L2.Key), V.int p.2))) (.inr z)).getD (.int 0) = .int (look W z) := by
  rw [valV_merge W [] z nd]
  unfold look
  split
  · rename_i e h
    rw [h]
    rfl
  · rename_i h
    rw [h]
    rfl
def spWorthOf (K : PySem.W.Frag) : Sp := fun vs H Q _ => ∃ (vw vs' : V) (W : List (Str × Int)) (ss : List Str), vs = [vw, vs'] ∧ WAt K H vw W ∧ (W.map (·.1)).Nodup ∧ W.length ≤ 1000 ∧ Dp K H vs' (dSh ss) ∧ ss.length ≤ 1000 ∧ ∀ H', Same H H' → Q (.int (wv W ss)) H'
section
variable {P : Program} {w : World} {K : PySem.W.Frag} {mg : Str → Option Value} {base : Heap}
theorem ok_worth_of (T : Txt K mg) {f : Addr} {fd : FuncData} (F : FnP K "worth_of" s_worth_of f fd) : FnOk P w K mg base CX0 1 f fd ["worths", "shown"] (spWorthOf K) := by
  refine F.ok sc_worth_of (fun vs H Q E h => ?_) (fun cdv A outer s H vs Q E hr h => ?_)
  · obtain ⟨vw, vs', W, ss, rfl, _⟩ := h
    rfl
  · obtain ⟨vw, vs', W, ss, rfl, hw, nd, hwl, hs, hsl, q⟩ := h
    refine ⟨_, PSs.nox (pss_cons (ps_set (i := 2) sc_worth_of.nd rfl (Or.inr rfl) (pe_callTy (SR.cr_dictT rfl) (by rfl) T.b_dict (by decide +kernel) (pa_cons (pv 0) pa_nil)))
      (pss_one (ps_ret (pe_callB (cr_sum rfl) (by rfl) T.b_sum (by decide +kernel) (pa_cons (pe_lc (own := [("mark", 3)]) (g := (gName 3)) (tt := tYes) rfl sc_worth_of.nd (pi_tup (pv 1)) (blkOk_by (N := N_worth_of) (sc := defScope s_worth_of) (by decide +kernel)) (fun _ _ _ _ _ => (pg_name (i := 3) sc_worth_of.nd rfl (Or.inl rfl))) (fun _ _ _ _ _ => pts_nil) (fun _ _ _ _ _ => (pe_dget2 (hu_of hr) (pv 2) (pv 3) pe_int ⟨rfl, rfl, rfl, rfl⟩))) pa_nil))))), ?_⟩
    obtain ⟨a, ps, rfl, hk, hps, rfl⟩ := hw
    obtain ⟨p, rfl, hp⟩ := sh_at hs
    refine ⟨_, rfl, a, ps, rfl, hk, hps, fun t ht => ?_⟩
    have e0 : (ps.map fun p => ((.inr p.2.1 : L2.Key), V.int p.2.2)) = (ps.map (·.2)).map fun p => ((.inr p.1 : L2.Key), V.int p.2) := by rw [List.map_map]; rfl
    rw [e0]
    have s1 := same_new (o := .dK (mergeK [] ((ps.map (·.2)).map fun p => ((.inr p.1 : L2.Key), V.int p.2)))) ht
    have ht1 := upd_same (H := H) (a := t) (o := .dK (mergeK [] ((ps.map (·.2)).map fun p => ((.inr p.1 : L2.Key), V.int p.2))))
    generalize upd H t (.dK (mergeK [] ((ps.map (·.2)).map fun p => ((.inr p.1 : L2.Key), V.int p.2)))) = H1 at s1 ht1
    refine ⟨_, rfl, p, rfl, ⟨_, same_t s1 hp⟩, fun L hL => lc_tup (K := K) (a := p) (xs := ss.map V.str) (fun i H' => Same H1 H' ∧ H' L = some (.lst (((ss.take i).map (look (ps.map (·.2)))).map V.int))) ⟨same_new hL, upd_same⟩ (fun i H' _ e => same_t (s1.trans e.1) hp) ?_ ?_⟩
    · rintro i x H2 hi ⟨s2, hL2⟩
      obtain ⟨z, hz, rfl⟩ : ∃ z, ss[i]? = some z ∧ .str z = x := by
        rw [List.getElem?_map] at hi
        cases e : ss[i]? with
        | none =>
          rw [e] at hi
          cases hi
        | some z =>
          rw [e] at hi
          exact ⟨z, rfl, Option.some.inj hi⟩
      have il := (List.getElem?_eq_some_iff.mp hz).1
      refine ⟨rfl, _, rfl, t, rfl, .inl ⟨_, .inl (s2 _ _ ht1)⟩, _, rfl, _, DGet.k (k := .inr z) (s2 _ _ ht1), ?_⟩
      rw [get_table nd]
      refine ⟨_, hL2, by rw [List.length_map, List.length_map, List.length_take]; exact line6 (by omega), same_mut s2 hL, ?_⟩
      rw [upd_same, List.take_add_one, hz, List.map_append, List.map_append]
      rfl
    · rintro H2 ⟨s2, hL2⟩
      rw [List.length_map, List.take_length] at hL2
      exact ⟨L, _, rfl, SqL.of hL2, q _ (s1.trans s2)⟩
end
end Mt
namespace Mt
open PySem PySem.Spec PyProof.Rows L2
abbrev cs_wr : Scope := { kind := .function, names := [(Str.ofString ".0", .local), (Str.ofString "row", .local), (Str.ofString "worths", .cell)], isGenerator := false, isCoroutine := false }
theorem piTK {X : Cx} {K : PySem.W.Frag} {e tg : Expr} {te : TE} (h : X.K = K) (he : PE X e te) : PI X tg e (iTup K te) := h ▸ pi_tup he
theorem same_upd {H H' : Hp} {L : Addr} {o : HO} (s : Same H H') : Same (upd H L o) (upd H' L o) := fun b u e => by
  by_cases k : b = L
  · subst k
    rw [upd_same] at e ⊢
    exact e
  · rw [upd_ne k] at e ⊢
    exact s b u e
theorem upd_self {H : Hp} {p : Addr} {o : HO} (h : H p = some o) : upd H p o = H := by
  funext x
  by_cases k : x = p
  · subst k
    rw [upd_same, h]
  · rw [upd_ne k]
/-- a list of lists that is being filled: what it holds stands whatever stands at its own place -/
structure FL (K : PySem.W.Frag) (L : Addr) (H : Hp) (ds : List PyData) : Prop where
  d : ∃ zs, H L = some (.lst zs) ∧ zs.length = ds.length ∧ ∀ o, DpAll K (upd H L o) zs ds
theorem FL.nil {K : PySem.W.Frag} {L : Addr} {H : Hp} (h : H L = none) : FL K L (upd H L (.lst [])) [] := ⟨[], upd_same, rfl, fun _ => .nil⟩
theorem FL.dp {K : PySem.W.Frag} {L : Addr} {H : Hp} {ds : List PyData} (f : FL K L H ds) : Dp K H (.ref L) (.list ds) := by
  obtain ⟨zs, h1, _, h2⟩ := f.d
  have := h2 (.lst zs)
  rw [upd_self h1] at this
  exact .lst (SqL.of h1) this
theorem FL.same {K : PySem.W.Frag} {L : Addr} {H H' : Hp} {ds : List PyData} (f : FL K L H ds) (s : Same H H') : FL K L H' ds := by
  obtain ⟨zs, h1, h3, h2⟩ := f.d
  exact ⟨zs, s _ _ h1, h3, fun o => dpA_same (same_upd s) _ _ (h2 o)⟩
theorem FL.add {K : PySem.W.Frag} {L : Addr} {H : Hp} {ds : List PyData} {zs : List V} {v : V} {d : PyData} (f : FL K L H ds) (h : H L = some (.lst zs)) (hd : ∀ o, Dp K (upd H L o) v d) : FL K L (upd H L (.lst (zs ++ [v]))) (ds ++ [d]) := by
  obtain ⟨zs', h1, h3, h2⟩ := f.d
  rw [h] at h1
  cases h1
  refine ⟨_, upd_same, by rw [List.length_append, List.length_append, h3]; rfl, fun o => ?_⟩
  rw [upd_upd]
  exact dpA_snoc (h2 o) (hd o)
def dE (e : Int × Nat) : PyData := .tuple [.int e.1, .int (e.2 : Int)]
def dWRow (r : List (Int × Nat)) : PyData := .list (r.map dE)
def dWR (R : List (List (Int × Nat))) : PyData := .list (R.map dWRow)
def wBr (W : List (Str × Int)) (b : Br) : Int × Nat := (wv W b.2.1, b.2.2)
def wRow (W : List (Str × Int)) (r : List Br) : List (Int × Nat) := r.map (wBr W)
def spWRows (K : PySem.W.Frag) : Sp := fun vs H Q _ => ∃ (vc vw : V) (base : Int) (C : Chn) (W : List (Str × Int)), vs = [vc, vw] ∧ Dp K H vc (dChn base C) ∧ ChnOk base C ∧ WAt K H vw W ∧ (W.map (·.1)).Nodup ∧ W.length ≤ 1000 ∧
  ∀ H' v, Same H H' → Dp K H' v (dWR (C.map (wRow W))) → Q v H'
section
variable {P : Program} {w : World} {K : PySem.W.Frag} {mg : Str → Option Value} {base : Heap}
theorem ok_worth_rows (T : Txt K mg) (D_worth_of : Kept P w K mg base 1 "worth_of" ["worths", "shown"] (spWorthOf K)) {f : Addr} {fd : FuncData} (F : FnP K "worth_rows" s_worth_rows f fd) : FnOk P w K mg base CX0 2 f fd ["chain", "worths"] (spWRows K) := by
  refine F.ok sc_worth_rows (fun vs H Q E h => ?_) (fun cdv A outer s H vs Q E hr h => ?_)
  · obtain ⟨vc, vw, b, C, W, rfl, _⟩ := h
    rfl
  · obtain ⟨vc, vw, b, C, W, rfl, hC, okC, hw, nd, hwl, q⟩ := h
    refine ⟨_, PSs.nox (pss_one (ps_ret (pe_lc (own := [("row", 5)]) (g := (gName 5)) (tt := tYes) rfl sc_worth_rows.nd (pi_tup (pe_ix ix_tup (pv 0) pe_int (fun _ _ => rfl))) (blkOk_by (N := N_worth_rows) (sc := defScope s_worth_rows) (by decide +kernel)) (fun _ _ _ _ _ => (pg_name (i := 5) sc_worth_rows.nd rfl (Or.inl rfl))) (fun _ _ _ _ _ => pts_nil) (fun _ _ _ _ _ => (pe_lc (own := [("_", 2), ("shown", 3), ("target", 4)]) (g := (gTup K 3 (gCons (gName 2) (gCons (gName 3) (gCons (gName 4) gNil))))) (tt := tYes) rfl sc_worth_rows.nd (piTK (K := K) rfl (pv 5)) (blkOk_by (N := N_worth_rows) (sc := cs_wr) (by decide +kernel)) (fun _ _ _ _ _ => (pg_tup rfl (pgs_cons (pg_name (i := 2) sc_worth_rows.nd rfl (Or.inl rfl)) (pgs_cons (pg_name (i := 3) sc_worth_rows.nd rfl (Or.inl rfl)) (pgs_cons (pg_name (i := 4) sc_worth_rows.nd rfl (Or.inl rfl)) pgs_nil))))) (fun _ _ _ _ _ => pts_nil) (fun _ _ _ _ _ => (pe_tup (pa_cons (pe_d D_worth_of (hr.mono (by decide)) (by rfl) (pa_cons (pv 1) (pa_cons (pv 3) pa_nil))) (pa_cons (pv 4) pa_nil))))))))), ?_⟩
    obtain ⟨pc, pq, xs, rfl, hpc, hpq, hA⟩ := chn_at hC
    have xl := dpA_len hA
    rw [List.length_map] at xl
    refine ⟨_, rfl, pc, _, _, _, rfl, rfl, hpc, atI_nat (j := 2) rfl, pq, rfl, ⟨_, hpq⟩, fun L hL => lc_tup (K := K) (a := pq) (xs := xs) (fun i H' => Same H H' ∧ FL K L H' ((C.take i).map fun r => dWRow (wRow W r))) ⟨same_new hL, FL.nil hL⟩ (fun i H' _ e => same_t e.1 hpq) ?_ ?_⟩
    · rintro i x H1 hi ⟨s1, fl⟩
      obtain ⟨r, hr1, hx⟩ := dpA_mem hA hi
      have il := (List.getElem?_eq_some_iff.mp hr1).1
      have okr := okC.row r (List.mem_of_getElem? hr1)
      have few := okC.few
      obtain ⟨pr, rs, rfl, hpr, hrs⟩ := dp_tup hx
      have rl := dpA_len hrs
      rw [List.length_map] at rl
      obtain ⟨zs, hL1, zl, _⟩ := id fl.d
      rw [List.length_map, List.length_take] at zl
      refine ⟨rfl, _, rfl, pr, rfl, ⟨_, same_t s1 hpr⟩, fun M hM => lc_tup (K := K) (a := pr) (xs := rs) (fun j H' => Same H1 H' ∧ ∃ qs, H' M = some (.lst qs) ∧ DpAll K H' qs ((r.take j).map fun b => dE (wBr W b))) ⟨same_new hM, [], upd_same, .nil⟩ (fun j H' _ e => same_t (s1.trans e.1) hpr) ?_ ?_⟩
      · rintro j y H2 hj ⟨s2, qs, hM2, hqs⟩
        obtain ⟨br, hbr, hy⟩ := dpA_mem hrs hj
        have jl := (List.getElem?_eq_some_iff.mp hbr).1
        have okb := okr.to br (List.mem_of_getElem? hbr)
        have fewr := okr.few
        have ql := dpA_len hqs
        rw [List.length_map, List.length_take] at ql
        have s12 := s1.trans s2
        obtain ⟨pb, x0', x1', rfl, hpb, hd0, hd1⟩ := br_at hy
        refine ⟨_, _, rfl, same_t s12 hpb, rfl, _, _, rfl, _, _, rfl, _, _, rfl, rfl, rfl, ?_⟩
        refine ⟨_, rfl, _, rfl, vw, x1', W, br.2.1, rfl, hw.same s12, nd, hwl, dp_same s12 _ _ hd1, by omega, fun H3 s3 => ⟨_, rfl, by show 2 ≤ sizeLine; decide, fun pe hpe => ?_⟩⟩
        have s4 := s3.trans (same_new (o := .tup [.int (wv W br.2.1), .int br.2.2]) hpe)
        have hpe4 := upd_same (H := H3) (a := pe) (o := .tup [.int (wv W br.2.1), .int br.2.2])
        generalize upd H3 pe (.tup [.int (wv W br.2.1), .int br.2.2]) = H4 at s4 hpe4
        have hM4 := s4 _ _ hM2
        refine ⟨qs, hM4, line6 (by omega), same_mut (s2.trans s4) hM, qs ++ [.ref pe], upd_same, ?_⟩
        have k4 := keepT_nt (o := .lst (qs ++ [.ref pe])) (nt_lst _) hM4
        rw [List.take_add_one, hbr, List.map_append]
        refine dpA_snoc (dpA_keep k4 _ _ (noLs_map _ _ fun _ _ => rfl) (dpA_same s4 _ _ hqs)) (.tup (sqt_keep k4 (SqT.of hpe4)) (.cons (.int _) (.cons (.int _) .nil)))
      · rintro H2 ⟨s2, qs, hM2, hqs⟩
        rw [rl, List.take_length] at hqs
        have hL2 := s2 _ _ hL1
        refine ⟨zs, hL2, line6 (by omega), same_mut (s1.trans s2) hL, ?_⟩
        rw [List.take_add_one, hr1, List.map_append]
        refine (fl.same s2).add hL2 fun o => ?_
        have nM : M ≠ L := (ne_of_none hL1 hM).symm
        have e : dWRow (wRow W r) = .list (r.map fun b => dE (wBr W b)) := by
          show PyData.list ((r.map (wBr W)).map dE) = _
          rw [List.map_map]
          rfl
        show Dp K (upd H2 L o) (.ref M) (dWRow (wRow W r))
        rw [e]
        exact .lst (SqL.of (by rw [upd_ne nM]; exact hM2)) (dpA_keep (keepT_nt (nt_lst _) hL2) _ _ (noLs_map _ _ fun _ _ => rfl) hqs)
    · rintro H1 ⟨s1, fl⟩
      rw [xl, List.take_length] at fl
      refine q _ _ s1 ?_
      have e : dWR (C.map (wRow W)) = .list (C.map fun r => dWRow (wRow W r)) := by
        show PyData.list ((C.map (wRow W)).map dWRow) = _
        rw [List.map_map]
        rfl
      rw [e]
      exact fl.dp
end
end Mt
namespace Mt
open PySem PySem.Spec PyProof.Rows L2
theorem minK {X : Cx} {K : PySem.W.Frag} (hc : X.calm = true) (h : X.K = K) : CallR X (.builtin "min") (rMin K) := h ▸ cr_min hc
theorem maxK {X : Cx} {K : PySem.W.Frag} (hc : X.calm = true) (h : X.K = K) : CallR X (.builtin "max") (rMax K) := h ▸ cr_max hc
theorem piLK {X : Cx} {K : PySem.W.Frag} {e tg : Expr} {te : TE} (h : X.K = K) (he : PE X e te) : PI X tg e (iList K te) := h ▸ pi_list he
abbrev cs_g1 : Scope := { kind := .function, names := [(Str.ofString ".0", .local), (Str.ofString "row", .local), (Str.ofString "min", .globalImplicit), (Str.ofString "least", .cell)], isGenerator := false, isCoroutine := false }
abbrev cs_g2 : Scope := { kind := .function, names := [(Str.ofString ".0", .local), (Str.ofString "row", .local), (Str.ofString "max", .globalImplicit), (Str.ofString "most", .cell)], isGenerator := false, isCoroutine := false }
/-! ### the least and the greatest -/
def mn : List Int → Int
  | [] => 0
  | [x] => x
  | x :: r => min x (mn r)
def mx (l : List Int) : Int := -mn (l.map fun x => -x)
theorem mn_mem : ∀ {l : List Int}, l ≠ [] → mn l ∈ l
  | [], h => absurd rfl h
  | [x], _ => List.mem_cons_self
  | x :: y :: r, _ => by
    have ih := mn_mem (l := y :: r) (by simp)
    show min x (mn (y :: r)) ∈ _
    by_cases h : x ≤ mn (y :: r)
    · rw [Int.min_eq_left h]
      exact List.mem_cons_self
    · rw [Int.min_eq_right (by omega)]
      exact List.mem_cons_of_mem _ ih
theorem mn_le : ∀ {l : List Int} {z : Int}, z ∈ l → mn l ≤ z
  | [], _, h => absurd h List.not_mem_nil
  | [x], z, h => by
    rw [List.mem_singleton.mp h]
    exact Int.le_refl _
  | x :: y :: r, z, h => by
    show min x (mn (y :: r)) ≤ z
    rcases List.mem_cons.mp h with rfl | h
    · exact Int.min_le_left _ _
    · exact Int.le_trans (Int.min_le_right _ _) (mn_le h)
theorem mn_eq {l : List Int} {m : Int} (h : m ∈ l) (h2 : ∀ y ∈ l, m ≤ y) : mn l = m := by
  have a := mn_le h
  have b := h2 _ (mn_mem (List.ne_nil_of_mem h))
  omega
theorem mx_mem {l : List Int} (h : l ≠ []) : mx l ∈ l := by
  have := mn_mem (l := l.map fun x => -x) (by simpa using h)
  obtain ⟨x, hx, e⟩ := List.mem_map.mp this
  unfold mx
  rw [← e]
  simpa using hx
theorem mx_ge {l : List Int} {z : Int} (h : z ∈ l) : z ≤ mx l := by
  have := mn_le (l := l.map fun x => -x) (List.mem_map.mpr ⟨z, h, rfl⟩)
  unfold mx
  omega
theorem mx_eq {l : List Int} {m : Int} (h : m ∈ l) (h2 : ∀ y ∈ l, y ≤ m) : mx l = m := by
  have a := mx_ge h
  have b := h2 _ (mx_mem (List.ne_nil_of_mem h))
  omega
abbrev WR : Type := List (List (Int × Nat))
def nxt (l : List Int) (e : Int × Nat) : Int := e.1 + (l[e.2]?).getD 0
def lo (R : WR) : Nat → List Int
  | 0 => R.map fun _ => 0
  | n + 1 => R.map fun row => mn (row.map (nxt (lo R n)))
def hi (R : WR) : Nat → List Int
  | 0 => R.map fun _ => 0
  | n + 1 => R.map fun row => mx (row.map (nxt (hi R n)))
theorem lo_len (R : WR) (n : Nat) : (lo R n).length = R.length := by
  cases n <;> (unfold lo; rw [List.length_map])
theorem hi_len (R : WR) (n : Nat) : (hi R n).length = R.length := by
  cases n <;> (unfold hi; rw [List.length_map])
structure ROk (R : WR) : Prop where
  pos : 0 < R.length
  few : R.length ≤ 20
  row : ∀ r ∈ R, 0 < r.length ∧ r.length ≤ 20 ∧ ∀ e ∈ r, e.2 < R.length
theorem ROk.of {base : Int} {C : Chn} (o : ChnOk base C) (W : List (Str × Int)) : ROk (C.map (wRow W)) := by
  refine ⟨by rw [List.length_map]; exact o.pos, by rw [List.length_map]; exact o.few, fun r hr => ?_⟩
  obtain ⟨r0, h0, rfl⟩ := List.mem_map.mp hr
  have k := o.row r0 h0
  refine ⟨?_, ?_, fun e he => ?_⟩
  · unfold wRow
    rw [List.length_map]
    exact k.ne
  · unfold wRow
    rw [List.length_map]
    exact k.few
  · obtain ⟨b, hb, rfl⟩ := List.mem_map.mp he
    rw [List.length_map]
    exact (k.to b hb).1
def at0 (l : List Int) (i : Nat) : Int := (l[i]?).getD 0
def spGreat (K : PySem.W.Frag) : Sp := fun vs H Q _ => ∃ (vc vw : V) (n : Nat) (base : Int) (C : Chn) (W : List (Str × Int)), vs = [vc, vw, .int n] ∧ Dp K H vc (dChn base C) ∧ ChnOk base C ∧ WAt K H vw W ∧ (W.map (·.1)).Nodup ∧ W.length ≤ 1000 ∧ n ≤ 10000 ∧
  ∀ H' p, Same H H' → H' p = some (.tup [.int (at0 (lo (C.map (wRow W)) n) 0), .int (at0 (hi (C.map (wRow W)) n) 0)]) → Q (.ref p) H'
theorem e_at {K : PySem.W.Frag} {H : Hp} {v : V} {e : Int × Nat} (h : Dp K H v (dE e)) : ∃ p, v = .ref p ∧ SqT K H p [.int e.1, .int (e.2 : Int)] := by
  obtain ⟨p, xs, rfl, h1, hA⟩ := dp_tup h
  obtain ⟨x0, r0, rfl, h0, hA⟩ := dpA_cons hA
  obtain ⟨x1, r1, rfl, h2, hA⟩ := dpA_cons hA
  cases dpA_nil hA
  rw [dp_int h0, dp_int h2] at h1
  exact ⟨p, rfl, h1⟩
theorem getD_at {l : List Int} {i : Nat} (h : i < l.length) : l[i]? = some ((l[i]?).getD 0) := by
  rw [List.getElem?_eq_getElem h]
  rfl
section
variable {P : Program} {w : World} {K : PySem.W.Frag} {mg : Str → Option Value} {base : Heap}
theorem ok__law_worth (T : Txt K mg) {f : Addr} {fd : FuncData} (F : FnP K "_law_worth" s__law_worth f fd) : FnOk P w K mg base CX0 1 f fd ["worths", "shown"] (spWorthOf K) := by
  refine F.ok sc__law_worth (fun vs H Q E h => ?_) (fun cdv A outer s H vs Q E hr h => ?_)
  · obtain ⟨vw, vs', W, ss, rfl, _⟩ := h
    rfl
  · obtain ⟨vw, vs', W, ss, rfl, hw, nd, hwl, hs, hsl, q⟩ := h
    refine ⟨_, PSs.nox (pss_cons (ps_set (i := 2) sc__law_worth.nd rfl (Or.inl rfl) pe_int)
      (pss_cons (ps_for PassesOwn.never rfl (pi_tup (pv 0)) (pg_tup rfl (pgs_cons (pg_name (i := 3) sc__law_worth.nd rfl (Or.inr rfl)) (pgs_cons (pg_name (i := 4) sc__law_worth.nd rfl (Or.inl rfl)) pgs_nil))) (pss_one (ps_aug (i := 2) sc__law_worth.nd rfl (Or.inl rfl) (pe_op op_mul (pv 4) (pe_callB call_len (by rfl) T.b_len (by decide +kernel) (pa_cons (pe_lc (own := [("one", 5)]) (g := (gName 5)) rfl sc__law_worth.nd (pi_tup (pv 1)) (blkOk_by (N := N__law_worth) (sc := defScope s__law_worth) (by decide +kernel)) (fun _ _ _ _ _ => (pg_name (i := 5) sc__law_worth.nd rfl (Or.inl rfl))) (fun _ _ _ _ _ => (pts_one (pt_cmpR op_eq (pv 5) (pv 3) (nomark _)))) (fun _ _ _ _ _ => (pv 5))) pa_nil))) ip_add)))
      (pss_one (ps_ret (pv 2))))), ?_⟩
    obtain ⟨a, ps, rfl, hk, hps, rfl⟩ := hw
    obtain ⟨p, rfl, hp⟩ := sh_at hs
    rw [wv_law nd] at q
    have hT : SqT K H a (ps.map fun p => V.ref p.1) := hk.sqt
    refine ⟨_, rfl, a, rfl, ⟨_, hT⟩, for_tup (K := K) (a := a) (xs := ps.map fun p => V.ref p.1) (fun i σ H' => ∃ (y3 y4 y5 : Option V), σ = [some (.ref a), some (.ref p), some (.int (((ps.take i).map fun p => p.2.2 * cnt p.2.1 ss).sum)), y3, y4, y5] ∧ Same H H') ⟨_, _, _, rfl, Same.refl _⟩ (fun i σ H' _ ⟨_, _, _, _, s⟩ => same_t s hT) ?_ ?_⟩
    · rintro i x σ H1 hi ⟨y3, y4, y5, rfl, s1⟩
      obtain ⟨pt, hpt, rfl⟩ : ∃ pt, ps[i]? = some pt ∧ .ref pt.1 = x := by
        rw [List.getElem?_map] at hi
        cases e : ps[i]? with
        | none =>
          rw [e] at hi
          cases hi
        | some z =>
          rw [e] at hi
          exact ⟨z, rfl, Option.some.inj hi⟩
      refine ⟨_, _, rfl, same_t s1 (hps pt (List.mem_of_getElem? hpt)), rfl, _, _, rfl, _, _, rfl, rfl, ?_⟩
      refine ⟨_, rfl, _, rfl, _, rfl, p, rfl, ⟨_, same_t s1 hp⟩, fun L hL => lc_tup (K := K) (a := p) (xs := ss.map V.str) (fun j H' => Same H1 H' ∧ H' L = some (.lst (((ss.take j).filter fun o => decide (o = pt.2.1)).map V.str))) ⟨same_new hL, upd_same⟩ (fun j H' _ e => same_t (s1.trans e.1) hp) ?_ ?_⟩
      · rintro j x H2 hj ⟨s2, hL2⟩
        obtain ⟨z, hz, rfl⟩ : ∃ z, ss[j]? = some z ∧ .str z = x := by
          rw [List.getElem?_map] at hj
          cases e : ss[j]? with
          | none =>
            rw [e] at hj
            cases hj
          | some z =>
            rw [e] at hj
            exact ⟨z, rfl, Option.some.inj hj⟩
        have jl := (List.getElem?_eq_some_iff.mp hz).1
        have fl := List.length_filter_le (fun o => decide (o = pt.2.1)) (ss.take j)
        rw [List.length_take] at fl
        have ed : decide (V.str z = V.str pt.2.1) = decide (z = pt.2.1) := by
          by_cases k : z = pt.2.1
          · rw [k, decide_eq_true rfl, decide_eq_true rfl]
          · rw [decide_eq_false k, decide_eq_false fun h => k (V.str.inj h)]
        refine ⟨rfl, _, rfl, _, rfl, rfl, _, rfl, ?_⟩
        rw [ed, List.take_add_one, hz]
        by_cases k : z = pt.2.1
        · rw [decide_eq_true k]
          refine ⟨_, rfl, _, hL2, by rw [List.length_map]; exact line6 (by omega), same_mut s2 hL, ?_⟩
          rw [upd_same, List.filter_append, List.map_append]
          simp [k]
        · rw [decide_eq_false k]
          refine ⟨s2, ?_⟩
          rw [List.filter_append]
          simpa [k] using hL2
      · rintro H2 ⟨s2, hL2⟩
        rw [List.length_map, List.take_length] at hL2
        have fl := List.length_filter_le (fun o => decide (o = pt.2.1)) ss
        refine ⟨_, _, rfl, .inl ⟨_, SqL.of hL2, rfl⟩, _, _, rfl, rfl, .inr ⟨?_, ?_⟩, _, _, rfl, rfl, ?_⟩
        · rw [List.length_map]
          omega
        · rw [List.length_map]
          omega
        · have es : ((ps.take (i + 1)).map fun p => p.2.2 * cnt p.2.1 ss).sum = ((ps.take i).map fun p => p.2.2 * cnt p.2.1 ss).sum + pt.2.2 * (((ss.filter fun o => decide (o = pt.2.1)).map V.str).length : Int) := by
            rw [List.take_add_one, hpt, List.map_append, List.sum_append, List.length_map]
            simp [cnt]
          rw [es]
          exact ⟨_, _, _, rfl, s1.trans s2⟩
    · rintro σ H1 ⟨y3, y4, y5, rfl, s1⟩
      rw [List.length_map, List.take_length]
      rw [List.map_map] at q
      exact ⟨_, rfl, q _ s1⟩
end
end Mt
namespace Mt
open PySem PySem.Spec PyProof.Rows L2
theorem row_at {K : PySem.W.Frag} {H : Hp} {v : V} {r : List (Int × Nat)} (h : Dp K H v (dWRow r)) : ∃ p xs, v = .ref p ∧ SqL K H p xs ∧ DpAll K H xs (r.map dE) := dp_lst h
theorem sum_at {l : List Int} {e : Int × Nat} (h : e.2 < l.length) : atI (l.map V.int) (e.2 : Int) = some (.int ((l[e.2]?).getD 0)) := atI_nat (by rw [List.getElem?_map, getD_at h]; rfl)
section
variable {P : Program} {w : World} {K : PySem.W.Frag} {mg : Str → Option Value} {base : Heap}
theorem ok_greatest (T : Txt K mg) (D_worth_rows : Kept P w K mg base 2 "worth_rows" ["chain", "worths"] (spWRows K)) {f : Addr} {fd : FuncData} (F : FnP K "greatest" s_greatest f fd) : FnOk P w K mg base CX0 3 f fd ["chain", "worths", "n"] (spGreat K) := by
  refine F.ok sc_greatest (fun vs H Q E h => ?_) (fun cdv A outer s H vs Q E hr h => ?_)
  · obtain ⟨vc, vw, n, b, C, W, rfl, _⟩ := h
    rfl
  · obtain ⟨vc, vw, n, b, C, W, rfl, hC, okC, hw, nd, hwl, n1, q⟩ := h
    refine ⟨_, PSs.nox (pss_cons (ps_set (i := 3) sc_greatest.nd rfl (Or.inl rfl) (pe_d D_worth_rows (hr.mono (by decide)) (by rfl) (pa_cons (pv 0) (pa_cons (pv 1) pa_nil))))
      (pss_cons (ps_set (i := 4) sc_greatest.nd rfl (Or.inr rfl) (pe_lc (own := [("_", 5)]) (g := (gName 5)) (tt := tYes) rfl sc_greatest.nd (pi_list (pv 3)) (blkOk_by (N := N_greatest) (sc := defScope s_greatest) (by decide +kernel)) (fun _ _ _ _ _ => (pg_name (i := 5) sc_greatest.nd rfl (Or.inl rfl))) (fun _ _ _ _ _ => pts_nil) (fun _ _ _ _ _ => pe_int)))
      (pss_cons (ps_set (i := 6) sc_greatest.nd rfl (Or.inr rfl) (pe_lc (own := [("_", 5)]) (g := (gName 5)) (tt := tYes) rfl sc_greatest.nd (pi_list (pv 3)) (blkOk_by (N := N_greatest) (sc := defScope s_greatest) (by decide +kernel)) (fun _ _ _ _ _ => (pg_name (i := 5) sc_greatest.nd rfl (Or.inl rfl))) (fun _ _ _ _ _ => pts_nil) (fun _ _ _ _ _ => pe_int)))
      (pss_cons (ps_for PassesOwn.never rfl (pi_range1 (by rfl) T.b_range (pa_cons (pv 2) pa_nil)) (pg_name (i := 5) sc_greatest.nd rfl (Or.inl rfl)) (pss_cons (ps_set (i := 4) sc_greatest.nd rfl (Or.inr rfl) (pe_lc (own := [("row", 9)]) (g := (gName 9)) (tt := tYes) rfl sc_greatest.nd (pi_list (pv 3)) (blkOk_by (N := N_greatest) (sc := defScope s_greatest) (by decide +kernel)) (fun _ _ _ _ _ => (pg_name (i := 9) sc_greatest.nd rfl (Or.inl rfl))) (fun _ _ _ _ _ => pts_nil) (fun _ _ _ _ _ => (pe_callB (minK (K := K) rfl rfl) (by rfl) T.b_min (by decide +kernel) (pa_cons (pe_lc (own := [("worth", 7), ("target", 8)]) (g := (gTup K 2 (gCons (gName 7) (gCons (gName 8) gNil)))) (tt := tYes) rfl sc_greatest.nd (piLK (K := K) rfl (pv 9)) (blkOk_by (N := N_greatest) (sc := cs_g1) (by decide +kernel)) (fun _ _ _ _ _ => (pg_tup rfl (pgs_cons (pg_name (i := 7) sc_greatest.nd rfl (Or.inl rfl)) (pgs_cons (pg_name (i := 8) sc_greatest.nd rfl (Or.inl rfl)) pgs_nil)))) (fun _ _ _ _ _ => pts_nil) (fun _ _ _ _ _ => (pe_op op_add (pv 7) (pe_ix (ixL (K := K) rfl) (pv 4) (pv 8) (fun _ _ => rfl))))) pa_nil)))))
      (pss_one (ps_set (i := 6) sc_greatest.nd rfl (Or.inr rfl) (pe_lc (own := [("row", 9)]) (g := (gName 9)) (tt := tYes) rfl sc_greatest.nd (pi_list (pv 3)) (blkOk_by (N := N_greatest) (sc := defScope s_greatest) (by decide +kernel)) (fun _ _ _ _ _ => (pg_name (i := 9) sc_greatest.nd rfl (Or.inl rfl))) (fun _ _ _ _ _ => pts_nil) (fun _ _ _ _ _ => (pe_callB (maxK (K := K) rfl rfl) (by rfl) T.b_max (by decide +kernel) (pa_cons (pe_lc (own := [("worth", 7), ("target", 8)]) (g := (gTup K 2 (gCons (gName 7) (gCons (gName 8) gNil)))) (tt := tYes) rfl sc_greatest.nd (piLK (K := K) rfl (pv 9)) (blkOk_by (N := N_greatest) (sc := cs_g2) (by decide +kernel)) (fun _ _ _ _ _ => (pg_tup rfl (pgs_cons (pg_name (i := 7) sc_greatest.nd rfl (Or.inl rfl)) (pgs_cons (pg_name (i := 8) sc_greatest.nd rfl (Or.inl rfl)) pgs_nil)))) (fun _ _ _ _ _ => pts_nil) (fun _ _ _ _ _ => (pe_op op_add (pv 7) (pe_ix (ixL (K := K) rfl) (pv 6) (pv 8) (fun _ _ => rfl))))) pa_nil))))))))
      (pss_one (ps_ret (pe_tup (pa_cons (pe_ix ix_list (pv 4) pe_int (fun _ _ => rfl)) (pa_cons (pe_ix ix_list (pv 6) pe_int (fun _ _ => rfl)) pa_nil))))))))), ?_⟩
    refine ⟨_, rfl, _, rfl, vc, vw, b, C, W, rfl, hC, okC, hw, nd, hwl, fun H1 v s1 hR => ?_⟩
    have okR := ROk.of okC W
    generalize C.map (wRow W) = R at q hR okR
    have pos := okR.pos
    have few := okR.few
    obtain ⟨pR, xs, rfl, hpR, hA⟩ := dp_lst hR
    have xl := dpA_len hA
    rw [List.length_map] at xl
    have zero : xs.map (fun _ => V.int 0) = (R.map fun _ => (0 : Int)).map V.int := by
      rw [List.map_const', xl, List.map_const', List.map_replicate]
    refine ⟨_, rfl, pR, rfl, ⟨_, hpR⟩, fun a ha => lc_list (K := K) (a := pR) (xs := xs) (fun i H' => Same H1 H' ∧ H' a = some (.lst ((xs.take i).map fun _ => .int 0))) ⟨same_new ha, upd_same⟩ (fun i H' _ e => same_l e.1 hpR) ?_ ?_⟩
    · rintro i x H2 hi ⟨s2, h2⟩
      refine ⟨rfl, _, h2, ?_, same_mut s2 ha, ?_⟩
      · rw [List.length_map, List.length_take]
        exact line6 (by omega)
      · rw [upd_same, take_map_succ (f := fun _ => V.int 0) hi]
    · rintro H2 ⟨s2, h2⟩
      rw [List.take_length] at h2
      refine ⟨_, rfl, pR, rfl, ⟨_, same_l s2 hpR⟩, fun b ha => lc_list (K := K) (a := pR) (xs := xs) (fun i H' => Same H2 H' ∧ H' b = some (.lst ((xs.take i).map fun _ => .int 0))) ⟨same_new ha, upd_same⟩ (fun i H' _ e => same_l (s2.trans e.1) hpR) ?_ ?_⟩
      · rintro i x H3 hi ⟨s3, h3⟩
        refine ⟨rfl, _, h3, ?_, same_mut s3 ha, ?_⟩
        · rw [List.length_map, List.length_take]
          exact line6 (by omega)
        · rw [upd_same, take_map_succ (f := fun _ => V.int 0) hi]
      · rintro H3 ⟨s3, h3⟩
        rw [List.take_length] at h3
        have s13 := s2.trans s3
        refine ⟨_, rfl, _, rfl, by omega, by omega, for_range (lo := 0) (n := n) (fun i σ H' => ∃ (a b : Addr) (y5 : Option V), σ = [some vc, some vw, some (.int n), some (.ref pR), some (.ref a), y5, some (.ref b), none, none, none] ∧ Same H1 H' ∧ H' a = some (.lst ((lo R i).map V.int)) ∧ H' b = some (.lst ((hi R i).map V.int))) ⟨a, b, _, rfl, s13, ?_, ?_⟩ ?_ ?_⟩
        · rw [s3 _ _ h2, zero]
          rfl
        · rw [h3, zero]
          rfl
        · rintro i σ H4 hi ⟨a, b, y5, rfl, s4, h4, h5⟩
          refine ⟨_, rfl, pR, rfl, ⟨_, same_l s4 hpR⟩, fun c hc => lc_list (K := K) (a := pR) (xs := xs) (fun j H' => Same H4 H' ∧ H' c = some (.lst (((lo R (i + 1)).take j).map V.int))) ⟨same_new hc, upd_same⟩ (fun i H' _ e => same_l (s4.trans e.1) hpR) ?_ ?_⟩
          · rintro j x H5 hj ⟨s5, h6⟩
            obtain ⟨r, hr1, hx⟩ := dpA_mem hA hj
            have jl := (List.getElem?_eq_some_iff.mp hr1).1
            obtain ⟨r0, r1, r2⟩ := okR.row r (List.mem_of_getElem? hr1)
            obtain ⟨pr, rs, rfl, hpr, hrs⟩ := row_at hx
            have s45 := s4.trans s5
            refine ⟨rfl, _, rfl, pr, rfl, ⟨_, same_l s45 hpr⟩, fun M hM => lc_list (K := K) (a := pr) (xs := rs) (fun k H' => Same H5 H' ∧ H' M = some (.lst (((r.map (Mt.nxt (lo R i))).take k).map V.int))) ⟨same_new hM, upd_same⟩ (fun k H' _ e => same_l (s45.trans e.1) hpr) ?_ ?_⟩
            · rintro k y H6 hk ⟨s6, h7⟩
              obtain ⟨e, he, hy⟩ := dpA_mem hrs hk
              obtain ⟨pe, rfl, hpe⟩ := e_at hy
              have kl := (List.getElem?_eq_some_iff.mp he).1
              refine ⟨_, _, rfl, same_t (s45.trans s6) hpe, rfl, _, _, rfl, _, _, rfl, rfl, rfl, ?_⟩
              refine ⟨_, rfl, _, rfl, _, rfl, a, _, _, _, rfl, rfl, SqL.of ((s5.trans s6) _ _ h4), sum_at (by rw [lo_len]; exact r2 e (List.mem_of_getElem? he)), _, _, rfl, rfl, _, h7, ?_, same_mut s6 hM, ?_⟩
              · rw [List.length_map, List.length_take, List.length_map]
                exact line6 (by omega)
              · rw [upd_same, List.take_add_one, List.getElem?_map, he, List.map_append]
                rfl
            · rintro H6 ⟨s6, h7⟩
              have rl := dpA_len hrs
              rw [List.length_map] at rl
              rw [rl, ← List.length_map (f := Mt.nxt (lo R i)), List.take_length] at h7
              refine ⟨M, _, rfl, SqL.of h7, by rw [List.length_map]; exact r0, fun m hm hmin => ⟨_, s6 _ _ h6, ?_, same_mut (s5.trans s6) hc, ?_⟩⟩
              · rw [List.length_map, List.length_take, lo_len]
                exact line6 (by omega)
              · rw [upd_same, ← mn_eq hm hmin, List.take_add_one, show (lo R (i + 1))[j]? = some (mn (r.map (Mt.nxt (lo R i)))) by show (R.map _)[j]? = _; rw [List.getElem?_map, hr1]; rfl, List.map_append]
                rfl
          · rintro H5 ⟨s5, h6⟩
            rw [xl, ← lo_len R (i + 1), List.take_length] at h6
            have s45 := s4.trans s5
            have h5' := s5 _ _ h5
            refine ⟨_, rfl, pR, rfl, ⟨_, same_l s45 hpR⟩, fun c' hc' => lc_list (K := K) (a := pR) (xs := xs) (fun j H' => Same H5 H' ∧ H' c' = some (.lst (((Mt.hi R (i + 1)).take j).map V.int))) ⟨same_new hc', upd_same⟩ (fun i H' _ e => same_l (s45.trans e.1) hpR) ?_ ?_⟩
            · rintro j x H6 hj ⟨s6, h7⟩
              obtain ⟨r, hr1, hx⟩ := dpA_mem hA hj
              have jl := (List.getElem?_eq_some_iff.mp hr1).1
              obtain ⟨r0, r1, r2⟩ := okR.row r (List.mem_of_getElem? hr1)
              obtain ⟨pr, rs, rfl, hpr, hrs⟩ := row_at hx
              have s46 := s45.trans s6
              refine ⟨rfl, _, rfl, pr, rfl, ⟨_, same_l s46 hpr⟩, fun M hM => lc_list (K := K) (a := pr) (xs := rs) (fun k H' => Same H6 H' ∧ H' M = some (.lst (((r.map (Mt.nxt (Mt.hi R i))).take k).map V.int))) ⟨same_new hM, upd_same⟩ (fun k H' _ e => same_l (s46.trans e.1) hpr) ?_ ?_⟩
              · rintro k y H7 hk ⟨s7, h8⟩
                obtain ⟨e, he, hy⟩ := dpA_mem hrs hk
                obtain ⟨pe, rfl, hpe⟩ := e_at hy
                have kl := (List.getElem?_eq_some_iff.mp he).1
                refine ⟨_, _, rfl, same_t (s46.trans s7) hpe, rfl, _, _, rfl, _, _, rfl, rfl, rfl, ?_⟩
                refine ⟨_, rfl, _, rfl, _, rfl, b, _, _, _, rfl, rfl, SqL.of ((s6.trans s7) _ _ h5'), sum_at (by rw [hi_len]; exact r2 e (List.mem_of_getElem? he)), _, _, rfl, rfl, _, h8, ?_, same_mut s7 hM, ?_⟩
                · rw [List.length_map, List.length_take, List.length_map]
                  exact line6 (by omega)
                · rw [upd_same, List.take_add_one, List.getElem?_map, he, List.map_append]
                  rfl
              · rintro H7 ⟨s7, h8⟩
                have rl := dpA_len hrs
                rw [List.length_map] at rl
                rw [rl, ← List.length_map (f := Mt.nxt (Mt.hi R i)), List.take_length] at h8
                refine ⟨M, _, rfl, SqL.of h8, by rw [List.length_map]; exact r0, fun m hm hmin => ⟨_, s7 _ _ h7, ?_, same_mut (s6.trans s7) hc', ?_⟩⟩
                · rw [List.length_map, List.length_take, hi_len]
                  exact line6 (by omega)
                · rw [upd_same, ← mx_eq hm hmin, List.take_add_one, show (Mt.hi R (i + 1))[j]? = some (mx (r.map (Mt.nxt (Mt.hi R i)))) by show (R.map _)[j]? = _; rw [List.getElem?_map, hr1]; rfl, List.map_append]
                  rfl
            · rintro H6 ⟨s6, h7⟩
              rw [xl, ← hi_len R (i + 1), List.take_length] at h7
              exact ⟨c, c', _, rfl, s45.trans s6, s6 _ _ h6, h7⟩
        · rintro σ H4 ⟨a, b, y5, rfl, s4, h4, h5⟩
          refine ⟨_, rfl, a, _, _, _, rfl, rfl, SqL.of h4, atI_nat (j := 0) (by rw [List.getElem?_map, getD_at (by rw [lo_len]; exact pos)]; rfl), _, rfl, b, _, _, _, rfl, rfl, SqL.of h5, atI_nat (j := 0) (by rw [List.getElem?_map, getD_at (by rw [hi_len]; exact pos)]; rfl), by show 2 ≤ sizeLine; decide, fun p hp => ?_⟩
          exact q _ p (s1.trans (s4.trans (same_new hp))) upd_same
end
end Mt
namespace Mt
open PySem PySem.Spec PyProof.Rows L2
theorem dI_canAll : ∀ l : List Int, PyData.canLayAll0 (l.map PyData.int) = true
  | [] => rfl
  | x :: r => by
    show (PyData.canLay0 (.int x) && PyData.canLayAll0 (r.map PyData.int)) = true
    rw [dI_canAll r]
    rfl
theorem dI_dep : ∀ l : List Int, PyData.depthAll (l.map PyData.int) = 0
  | [] => rfl
  | x :: r => by
    show max (PyData.depth (.int x)) (PyData.depthAll (r.map PyData.int)) = 0
    rw [dI_dep r]
    rfl
theorem dI_lay (l : List Int) : PyData.canLay0 (dI l) = true := dI_canAll l
theorem dI_sh (l : List Int) : SeqAt.shaped (dI l) = true := by
  unfold SeqAt.shaped
  rw [Bool.and_eq_true]
  refine ⟨dI_lay l, decide_eq_true ?_⟩
  show PyData.depthAll (l.map PyData.int) + 1 ≤ 64
  rw [dI_dep]
  decide
theorem eqv_ints : ∀ a b : List Int, PyData.eqvAll (a.map PyData.int) (b.map PyData.int) = decide (a = b)
  | [], [] => rfl
  | [], _ :: _ => rfl
  | _ :: _, [] => rfl
  | x :: a, y :: b => by
    show (PyData.eqv (.int x) (.int y) && PyData.eqvAll (a.map PyData.int) (b.map PyData.int)) = decide (x :: a = y :: b)
    rw [eqv_ints a b]
    show (decide (x = y) && decide (a = b)) = _
    by_cases h1 : x = y <;> by_cases h2 : a = b <;> simp [h1, h2]
theorem eqv_I (a b : List Int) : PyData.eqv (dI a) (dI b) = decide (a = b) := eqv_ints a b
theorem cut_at {l : List Int} {k m : Nat} (h : k + m ≤ l.length) : cutV (l.map V.int) (some (k : Int)) (some ((k : Int) + (m : Int))) = ((l.drop k).take m).map V.int := by
  unfold cutV
  rw [HT.sIx_nat, ← Int.natCast_add, HT.sIx_nat, List.length_map, Nat.min_eq_left (by omega), Nat.min_eq_left (by omega), Nat.add_sub_cancel_left, List.map_take, List.map_drop]
def spBranch (K : PySem.W.Frag) : Sp := fun vs H Q _ => ∃ (vr vt : V) (k : Nat) (base : Int) (n : Nat) (r : List Br) (tape : List Int), vs = [vr, vt, .int k] ∧ Dp K H vr (dRw r) ∧ RwOk base n r ∧ Dp K H vt (dI tape) ∧ (∀ x ∈ tape, 0 ≤ x ∧ x < base) ∧ k + 3 ≤ tape.length ∧ tape.length ≤ 10000 ∧
  ∀ H' v b, Same H H' → b ∈ r → Dp K H' v (dBr b) → Q v H'
section
variable {P : Program} {w : World} {K : PySem.W.Frag} {mg : Str → Option Value} {base : Heap}
theorem ok_branch_at (T : Txt K mg) {f : Addr} {fd : FuncData} (F : FnP K "branch_at" s_branch_at f fd) : FnOk P w K mg base CX0 1 f fd ["row", "tape", "at"] (spBranch K) := by
  refine F.ok sc_branch_at (fun vs H Q E h => ?_) (fun cdv A outer s H vs Q E hr h => ?_)
  · obtain ⟨vr, vt, k, b, n, r, tape, rfl, _⟩ := h
    rfl
  · obtain ⟨vr, vt, k, b, n, r, tape, rfl, hR, ok, ht, htb, hk, hl, q⟩ := h
    refine ⟨_, PSs.nox (pss_cons (ps_for PassesOwn.never rfl (pi_tup (pv 0)) (pg_name (i := 3) sc_branch_at.nd rfl (Or.inl rfl)) (pss_one (ps_if (pt_cmpR (op_eqD (hr.units)) (pe_slice sl_tupA (pv 1) (po_some (pv 2)) (po_some (pe_op op_add (pv 2) (pe_callB call_len (by rfl) T.b_len (by decide +kernel) (pa_cons (pe_ix ix_tup (pv 3) pe_int (fun _ _ => rfl)) pa_nil))))) (pe_ix ix_tup (pv 3) pe_int (fun _ _ => rfl)) (nomark _)) (pss_one (ps_ret (pv 3))) pss_nil)))
      (pss_one ps_never)), ?_⟩
    obtain ⟨pr, rs, rfl, hpr, hrs⟩ := dp_tup hR
    have rl := dpA_len hrs
    rw [List.length_map] at rl
    obtain ⟨pt, rfl, hpt⟩ := i_at ht
    refine ⟨_, rfl, pr, rfl, ⟨_, hpr⟩, for_tup (K := K) (a := pr) (xs := rs) (fun i σ H' => ∃ y3 : Option V, σ = [some (.ref pr), some (.ref pt), some (.int k), y3] ∧ Same H H' ∧ ∀ b ∈ r.take i, (tape.drop k).take b.1.length ≠ b.1) ⟨_, rfl, Same.refl _, by simp⟩ (fun i σ H' _ ⟨_, _, s, _⟩ => same_t s hpr) ?_ ?_⟩
    · rintro i x σ H1 hi ⟨y3, rfl, s1, hno⟩
      obtain ⟨br, hbr, hx⟩ := dpA_mem (dpA_same s1 _ _ hrs) hi
      obtain ⟨pb, x0, x1, rfl, hpb, hd0, hd1⟩ := br_at hx
      obtain ⟨p0, rfl, hp0⟩ := i_at hd0
      have short := ok.cm.short br.1 (List.mem_map.mpr ⟨br, List.mem_of_getElem? hbr, rfl⟩)
      have ec := cut_at (l := tape) (k := k) (m := br.1.length) (by omega)
      have htk : r.take (i + 1) = r.take i ++ [br] := by
        rw [List.take_add_one, hbr]
        rfl
      have fin : ∀ (H2 : Hp) (p : Addr), Same H1 H2 → SqT K H2 p (((tape.drop k).take br.1.length).map V.int) → ∃ d e, Dp K H2 (.ref p) d ∧ Dp K H2 (.ref p0) e ∧ SeqAt.shaped d = true ∧ SeqAt.shaped e = true ∧ PyData.eqv d e = decide ((tape.drop k).take br.1.length = br.1) := fun H2 p s2 hp =>
        ⟨_, _, i_of hp, dp_same s2 _ _ hd0, dI_sh _, dI_sh _, eqv_I _ _⟩
      refine ⟨_, rfl, _, rfl, _, rfl, _, rfl, _, rfl, pb, _, _, _, rfl, rfl, hpb, atI_nat (j := 0) rfl, _, _, rfl, .inr ⟨_, hp0, rfl⟩, _, _, rfl, rfl, _, rfl, pt, _, rfl, same_t s1 hpt, fun hwh => ?_, fun _ p hp => ?_⟩
      · rw [HT.sIx_nat, List.length_map, ← Int.natCast_add, HT.sIx_nat, List.length_map] at hwh
        have e1 : (tape.drop k).take br.1.length = tape := by
          rw [show k = 0 by omega, List.drop_zero]
          exact List.take_of_length_le (by omega)
        obtain ⟨d, e, f1, f2, f3, f4, f5⟩ := fin _ pt (Same.refl _) (by rw [e1]; exact same_t s1 hpt)
        refine ⟨_, rfl, pb, _, _, _, rfl, rfl, hpb, atI_nat (j := 0) rfl, d, e, f1, f2, f3, f4, _, rfl, ?_⟩
        rw [f5]
        refine ite2 (fun _ => ⟨_, rfl, q _ _ br s1 (List.mem_of_getElem? hbr) hx⟩) (fun hne => ⟨_, rfl, s1, fun b hb => ?_⟩)
        rw [htk] at hb
        rcases List.mem_append.mp hb with h | h
        · exact hno b h
        · rw [List.mem_singleton.mp h]
          exact fun h => hne (decide_eq_true h)
      · rw [List.length_map, ec]
        have s2 := same_new (o := .tup (((tape.drop k).take br.1.length).map V.int)) hp
        obtain ⟨d, e, f1, f2, f3, f4, f5⟩ := fin _ p s2 (SqT.of upd_same)
        refine ⟨_, rfl, pb, _, _, _, rfl, rfl, same_t s2 hpb, atI_nat (j := 0) rfl, d, e, f1, f2, f3, f4, _, rfl, ?_⟩
        rw [f5]
        refine ite2 (fun _ => ⟨_, rfl, q _ _ br (s1.trans s2) (List.mem_of_getElem? hbr) (dp_same s2 _ _ hx)⟩) (fun hne => ⟨_, rfl, s1.trans s2, fun b hb => ?_⟩)
        rw [htk] at hb
        rcases List.mem_append.mp hb with h | h
        · exact hno b h
        · rw [List.mem_singleton.mp h]
          exact fun h => hne (decide_eq_true h)
    · rintro σ H1 ⟨y3, rfl, s1, hno⟩
      rw [rl, List.take_length] at hno
      obtain ⟨w, hw, hp⟩ := ok.cm.all (tape.drop k) (fun x hx => htb x (List.mem_of_mem_drop hx)) (by rw [List.length_drop]; omega)
      obtain ⟨br, hbr, rfl⟩ := List.mem_map.mp hw
      exact hno br hbr (List.prefix_iff_eq_take.mp hp).symm
end
end Mt
namespace Mt
open PySem PySem.Spec PyProof.Rows L2
/-- what is shown on a way from state 0, and where it ends -/
inductive Way (C : Chn) : List (List Str) → Nat → Prop
  | nil : Way C [] 0
  | snoc {l : List (List Str)} {t : Nat} {r : List Br} {b : Br} : Way C l t → C[t]? = some r → b ∈ r → Way C (l ++ [b.2.1]) b.2.2
def spWalk (K : PySem.W.Frag) : Sp := fun vs H Q _ => ∃ (vc vt : V) (n : Nat) (base : Int) (C : Chn) (tape : List Int), vs = [vc, vt, .int n] ∧ Dp K H vc (dChn base C) ∧ ChnOk base C ∧ Dp K H vt (dI tape) ∧ (∀ x ∈ tape, 0 ≤ x ∧ x < base) ∧ 3 * n ≤ tape.length ∧ tape.length ≤ 10000 ∧
  ∀ H' v shs s rd, Same H H' → Way C shs s → shs.length = n → (∀ sh ∈ shs, sh.length ≤ 6) → Dp K H' v (.tuple [.tuple (shs.map dSh), .int s, .int rd]) → Q v H'
theorem noLs_sh (l : List (List Str)) : noLs (l.map dSh) = true := noLs_map _ _ fun s _ => dSh_noL s
section
variable {P : Program} {w : World} {K : PySem.W.Frag} {mg : Str → Option Value} {base : Heap}
theorem ok_walk (T : Txt K mg) (D_branch_at : Kept P w K mg base 1 "branch_at" ["row", "tape", "at"] (spBranch K)) {f : Addr} {fd : FuncData} (F : FnP K "walk" s_walk f fd) : FnOk P w K mg base CX0 2 f fd ["chain", "tape", "ticks"] (spWalk K) := by
  refine F.ok sc_walk (fun vs H Q E h => ?_) (fun cdv A outer s H vs Q E hr h => ?_)
  · obtain ⟨vc, vt, n, b, C, tape, rfl, _⟩ := h
    rfl
  · obtain ⟨vc, vt, n, b, C, tape, rfl, hC, ok, ht, htb, hn, hl, q⟩ := h
    refine ⟨_, PSs.nox (pss_cons (ps_set (i := 3) sc_walk.nd rfl (Or.inl rfl) (pe_ix ix_tup (pv 0) pe_int (fun _ _ => rfl)))
      (pss_cons (ps_set (i := 4) sc_walk.nd rfl (Or.inl rfl) pe_int)
      (pss_cons (ps_set (i := 5) sc_walk.nd rfl (Or.inl rfl) pe_int)
      (pss_cons (ps_set (i := 6) sc_walk.nd rfl (Or.inl rfl) (pe_lst pa_nil))
      (pss_cons (ps_for PassesOwn.never rfl (pi_range1 (by rfl) T.b_range (pa_cons (pv 2) pa_nil)) (pg_name (i := 7) sc_walk.nd rfl (Or.inl rfl)) (pss_cons (ps_asg (pe_d D_branch_at (hr.mono (by decide)) (by rfl) (pa_cons (pe_ix ix_tup (pv 3) (pv 4) (fun _ _ => rfl)) (pa_cons (pv 1) (pa_cons (pv 5) pa_nil)))) (pg_tup rfl (pgs_cons (pg_name (i := 8) sc_walk.nd rfl (Or.inl rfl)) (pgs_cons (pg_name (i := 9) sc_walk.nd rfl (Or.inl rfl)) (pgs_cons (pg_name (i := 4) sc_walk.nd rfl (Or.inl rfl)) pgs_nil)))))
      (pss_cons (ps_expr (pe_bm PySem.F.plainAttrs_list PySem.F.slot_list_append PySem.F.type_list_append mt_append (pv 6) (pa_cons (pv 9) pa_nil)))
      (pss_one (ps_aug (i := 5) sc_walk.nd rfl (Or.inl rfl) (pe_callB call_len (by rfl) T.b_len (by decide +kernel) (pa_cons (pv 8) pa_nil)) ip_add)))))
      (pss_one (ps_ret (pe_tup (pa_cons (pe_callTy call_tuple_of (by rfl) T.b_tuple (by decide +kernel) (pa_cons (pv 6) pa_nil)) (pa_cons (pv 4) (pa_cons (pv 5) pa_nil))))))))))), ?_⟩
    obtain ⟨pc, pq, xs, rfl, hpc, hpq, hA⟩ := chn_at hC
    have xl := dpA_len hA
    rw [List.length_map] at xl
    refine ⟨_, rfl, pc, _, _, _, rfl, rfl, hpc, atI_nat (j := 2) rfl, Nat.zero_le _, fun L hL => ?_⟩
    have s1 := same_new (o := .lst []) hL
    have hL1 := upd_same (H := H) (a := L) (o := .lst [])
    generalize upd H L (.lst []) = H1 at s1 hL1
    refine ⟨_, rfl, _, rfl, by omega, by omega, for_range (lo := 0) (n := n) (fun i σ H' => ∃ (st rd : Nat) (y7 y8 y9 : Option V) (zs : List V) (shs : List (List Str)), σ = [some (.ref pc), some vt, some (.int n), some (.ref pq), some (.int st), some (.int rd), some (.ref L), y7, y8, y9] ∧ Same H H' ∧ H' L = some (.lst zs) ∧ DpAll K H' zs (shs.map dSh) ∧ shs.length = i ∧ Way C shs st ∧ st < C.length ∧ rd ≤ 3 * i ∧ ∀ sh ∈ shs, sh.length ≤ 6) ⟨0, 0, _, _, _, [], [], rfl, s1, hL1, .nil, rfl, .nil, ok.pos, by omega, fun _ h => absurd h List.not_mem_nil⟩ ?_ ?_⟩
    · rintro i σ H2 hi ⟨st, rd, y7, y8, y9, zs, shs, rfl, s2, hL2, hzs, hsl, way, hst, hrd, h6⟩
      obtain ⟨r, hr1⟩ : ∃ r, C[st]? = some r := ⟨_, getElem?_lt hst⟩
      obtain ⟨xr, hxr, hdr⟩ := dpA_get hA hr1
      have okr := ok.row r (List.mem_of_getElem? hr1)
      have zl := dpA_len hzs
      rw [List.length_map] at zl
      refine ⟨_, rfl, _, rfl, pq, _, _, _, rfl, rfl, same_t s2 hpq, atI_nat hxr, _, rfl, _, rfl, xr, vt, rd, b, C.length, r, tape, rfl, dp_same s2 _ _ hdr, okr, dp_same s2 _ _ ht, htb, by omega, hl, fun H3 v br s3 hb hv => ?_⟩
      obtain ⟨pb, x0, x1, rfl, hpb, hd0, hd1⟩ := br_at hv
      obtain ⟨p0, rfl, hp0⟩ := i_at hd0
      have okb := okr.to br hb
      have short := okr.cm.short br.1 (List.mem_map.mpr ⟨br, hb, rfl⟩)
      have hL3 := s3 _ _ hL2
      have k4 := keepT_nt (o := .lst (zs ++ [x1])) (nt_lst _) hL3
      refine ⟨pb, _, rfl, hpb, rfl, _, _, rfl, _, _, rfl, _, _, rfl, rfl, ?_⟩
      refine ⟨_, rfl, .inl ⟨rfl, _, SqL.of hL3⟩, _, rfl, L, zs, _, rfl, rfl, hL3, line6 (by omega), ?_⟩
      refine ⟨_, rfl, _, rfl, _, _, rfl, .inr ⟨_, sqt_keep k4 hp0, rfl⟩, _, _, rfl, rfl, ?_⟩
      refine ⟨br.2.2, rd + br.1.length, some (.int (0 + (i : Int))), some (.ref p0), some x1, zs ++ [x1], shs ++ [br.2.1], ?_, same_mut (s2.trans s3) hL, upd_same, ?_, by rw [List.length_append, hsl]; rfl, way.snoc hr1 hb, okb.1, by omega, fun sh h => ?_⟩
      · rw [Int.natCast_add, List.length_map]
        rfl
      · rw [List.map_append]
        exact dpA_snoc (dpA_keep k4 _ _ (noLs_sh shs) (dpA_same s3 _ _ hzs)) (dp_keep k4 _ _ (dSh_noL _) hd1)
      · rcases List.mem_append.mp h with h | h
        · exact h6 sh h
        · rw [List.mem_singleton.mp h]
          exact okb.2
    · rintro σ H2 ⟨st, rd, y7, y8, y9, zs, shs, rfl, s2, hL2, hzs, hsl, way, hst, hrd, h6⟩
      refine ⟨_, rfl, L, zs, rfl, .inl ⟨SqL.of hL2, fun pt hpt => ⟨_, rfl, _, rfl, by show 3 ≤ sizeLine; decide, fun p hp => ?_⟩⟩⟩
      have s3 := same_new (o := .tup zs) hpt
      have s4 := same_new (o := .tup [.ref pt, .int st, .int rd]) hp
      exact q _ _ shs st rd (s2.trans (s3.trans s4)) way hsl h6 (.tup (SqT.of upd_same) (.cons (.tup (SqT.of (s4 _ _ upd_same)) (dpA_same (s3.trans s4) _ _ hzs)) (.cons (.int _) (.cons (.int _) .nil))))
end
end Mt
namespace Mt
open PySem PySem.Spec PyProof.Rows L2
abbrev Lf : Type := List Int × List (List Str) × Nat
def dSs (l : List (List Str)) : PyData := .tuple (l.map dSh)
def dLf (x : Lf) : PyData := .tuple [dI x.1, dSs x.2.1, .int (x.2.2 : Int)]
def ext (x : Lf) (b : Br) : Lf := (x.1 ++ b.1, x.2.1 ++ [b.2.1], b.2.2)
def rowOf (C : Chn) (s : Nat) : List Br := (C[s]?).getD []
def lv (C : Chn) : Nat → List Lf
  | 0 => [([], [], 0)]
  | n + 1 => (lv C n).flatMap fun x => (rowOf C x.2.2).map (ext x)
theorem dSs_noL (l : List (List Str)) : noL (dSs l) = true := noLs_sh l
theorem dLf_noL (x : Lf) : noL (dLf x) = true := by
  show (noL (dI x.1) && (noL (dSs x.2.1) && (true && true))) = true
  rw [dI_noL, dSs_noL]
  rfl
theorem noLs_lf (l : List Lf) : noLs (l.map dLf) = true := noLs_map _ _ fun x _ => dLf_noL x
theorem rowOf_at {C : Chn} {s : Nat} (h : s < C.length) : C[s]? = some (rowOf C s) := by
  unfold rowOf
  rw [List.getElem?_eq_getElem h]
  rfl
theorem lv_ok {base : Int} {C : Chn} (ok : ChnOk base C) : ∀ (n : Nat) (x : Lf), x ∈ lv C n → x.1.length ≤ 3 * n ∧ x.2.1.length = n ∧ x.2.2 < C.length
  | 0, x, h => by
    have : x = ([], [], 0) := List.mem_singleton.mp h
    rw [this]
    exact ⟨Nat.le_refl _, rfl, ok.pos⟩
  | n + 1, x, h => by
    obtain ⟨y, hy, h⟩ := List.mem_flatMap.mp h
    obtain ⟨b, hb, rfl⟩ := List.mem_map.mp h
    obtain ⟨h1, h2, h3⟩ := lv_ok ok n y hy
    have hr := List.mem_of_getElem? (rowOf_at h3)
    have okr := ok.row _ hr
    have short := okr.cm.short b.1 (List.mem_map.mpr ⟨b, hb, rfl⟩)
    refine ⟨?_, ?_, (okr.to b hb).1⟩
    · show (y.1 ++ b.1).length ≤ _
      rw [List.length_append]
      omega
    · show (y.2.1 ++ [b.2.1]).length = _
      rw [List.length_append, h2]
      rfl
theorem lf_at {K : PySem.W.Frag} {H : Hp} {v : V} {x : Lf} (h : Dp K H v (dLf x)) : ∃ p x0 x1, v = .ref p ∧ SqT K H p [x0, x1, .int x.2.2] ∧ Dp K H x0 (dI x.1) ∧ Dp K H x1 (dSs x.2.1) := by
  obtain ⟨p, xs, rfl, h1, hA⟩ := dp_tup h
  obtain ⟨x0, r0, rfl, h0, hA⟩ := dpA_cons hA
  obtain ⟨x1, r1, rfl, h2, hA⟩ := dpA_cons hA
  obtain ⟨x2, r2, rfl, h3, hA⟩ := dpA_cons hA
  cases dpA_nil hA
  rw [dp_int h3] at h1
  exact ⟨p, x0, x1, rfl, h1, h0, h2⟩
def spLeaves (K : PySem.W.Frag) : Sp := fun vs H Q _ => ∃ (vc : V) (n : Nat) (base : Int) (C : Chn), vs = [vc, .int n, .int 64] ∧ Dp K H vc (dChn base C) ∧ ChnOk base C ∧ n ≤ 10 ∧
  (∀ H', Same H H' → Q .non H') ∧ ∀ H' v, Same H H' → Dp K H' v (.list ((lv C n).map dLf)) → (lv C n).length ≤ 64 → Q v H'
theorem cat_D {K : PySem.W.Frag} {H : Hp} {a b : Addr} {xs ys : List V} {ds es : List PyData} (ha : SqT K H a xs) (hb : SqT K H b ys) (h1 : DpAll K H xs ds) (h2 : DpAll K H ys es) (hl : ds.length + es.length ≤ 1000) : rCatA K (.ref a) (.ref b) H (fun v H' => Same H H' ∧ Dp K H' v (.tuple (ds ++ es))) := by
  have l1 := dpA_len h1
  have l2 := dpA_len h2
  refine ⟨a, b, xs, ys, rfl, rfl, ha, hb, line5 (by omega), fun e => ?_, fun _ e => ?_, fun _ _ p hp => ?_⟩
  · subst e
    have : ds = [] := List.length_eq_zero_iff.mp l1.symm
    subst this
    exact ⟨Same.refl _, .tup hb h2⟩
  · subst e
    have : es = [] := List.length_eq_zero_iff.mp l2.symm
    subst this
    rw [List.append_nil]
    exact ⟨Same.refl _, .tup ha h1⟩
  · have s := same_new (o := .tup (xs ++ ys)) hp
    exact ⟨s, .tup (SqT.of upd_same) (dpA_app (dpA_same s _ _ h1) (dpA_same s _ _ h2))⟩
theorem flat_take {α β : Type} {f : α → List β} {l : List α} {i : Nat} {x : α} (h : l[i]? = some x) : (l.take (i + 1)).flatMap f = (l.take i).flatMap f ++ f x := by
  rw [List.take_add_one, h, List.flatMap_append]
  simp
theorem lenflat {base : Int} {C : Chn} (ok : ChnOk base C) {l : List Lf} (h : ∀ x ∈ l, x.2.2 < C.length) : (l.flatMap fun x => (rowOf C x.2.2).map (ext x)).length ≤ 20 * l.length := by
  induction l with
  | nil => exact Nat.le_refl _
  | cons x r ih =>
    rw [List.flatMap_cons, List.length_append, List.length_map, List.length_cons]
    have a := (ok.row _ (List.mem_of_getElem? (rowOf_at (h x List.mem_cons_self)))).few
    have b := ih fun y hy => h y (List.mem_cons_of_mem _ hy)
    omega
section
variable {P : Program} {w : World} {K : PySem.W.Frag} {mg : Str → Option Value} {base : Heap}
theorem ok__law_leaves (T : Txt K mg) {f : Addr} {fd : FuncData} (F : FnP K "_law_leaves" s__law_leaves f fd) : FnOk P w K mg base CX0 1 f fd ["chain", "n", "most"] (spLeaves K) := by
  refine F.ok sc__law_leaves (fun vs H Q E h => ?_) (fun cdv A outer s H vs Q E hr h => ?_)
  · obtain ⟨vc, n, b, C, rfl, _⟩ := h
    rfl
  · obtain ⟨vc, n, b, C, rfl, hC, ok, hn, qn, q⟩ := h
    refine ⟨_, PSs.nox (pss_cons (ps_set (i := 3) sc__law_leaves.nd rfl (Or.inl rfl) (pe_lst (pa_cons (pe_tup (pa_cons (pe_tup pa_nil) (pa_cons (pe_tup pa_nil) (pa_cons pe_int pa_nil)))) pa_nil)))
      (pss_cons (ps_for PassesOwn.never rfl (pi_range1 (by rfl) T.b_range (pa_cons (pv 1) pa_nil)) (pg_name (i := 4) sc__law_leaves.nd rfl (Or.inl rfl)) (pss_cons (ps_set (i := 5) sc__law_leaves.nd rfl (Or.inl rfl) (pe_lst pa_nil))
      (pss_cons (ps_for PassesOwn.never rfl (pi_list (pv 3)) (pg_tup rfl (pgs_cons (pg_name (i := 6) sc__law_leaves.nd rfl (Or.inl rfl)) (pgs_cons (pg_name (i := 7) sc__law_leaves.nd rfl (Or.inl rfl)) (pgs_cons (pg_name (i := 8) sc__law_leaves.nd rfl (Or.inl rfl)) pgs_nil)))) (pss_one (ps_for PassesOwn.never rfl (pi_tup (pe_ix ix_tup (pe_ix ix_tup (pv 0) pe_int (fun _ _ => rfl)) (pv 8) (fun _ _ => rfl))) (pg_tup rfl (pgs_cons (pg_name (i := 9) sc__law_leaves.nd rfl (Or.inl rfl)) (pgs_cons (pg_name (i := 10) sc__law_leaves.nd rfl (Or.inl rfl)) (pgs_cons (pg_name (i := 11) sc__law_leaves.nd rfl (Or.inl rfl)) pgs_nil)))) (pss_one (ps_expr (pe_bm PySem.F.plainAttrs_list PySem.F.slot_list_append PySem.F.type_list_append mt_append (pv 5) (pa_cons (pe_tup (pa_cons (pe_op op_catA (pv 6) (pv 9)) (pa_cons (pe_op op_catA (pv 7) (pe_tup (pa_cons (pv 10) pa_nil))) (pa_cons (pv 11) pa_nil)))) pa_nil)))))))
      (pss_cons (ps_set (i := 3) sc__law_leaves.nd rfl (Or.inl rfl) (pv 5))
      (pss_one (ps_if (pt_cmpR op_gt (pe_callB call_len (by rfl) T.b_len (by decide +kernel) (pa_cons (pv 3) pa_nil)) (pv 2) (nomark _)) (pss_one (ps_ret pe_non)) pss_nil))))))
      (pss_one (ps_ret (pv 3))))), ?_⟩
    obtain ⟨pc, pq, xs, rfl, hpc, hpq, hA⟩ := chn_at hC
    have xl := dpA_len hA
    rw [List.length_map] at xl
    refine ⟨Nat.zero_le _, fun p1 hp1 => ⟨Nat.zero_le _, fun p2 hp2 => ⟨by show 3 ≤ sizeLine; decide, fun p3 hp3 => ⟨by show 1 ≤ sizeLine; decide, fun L hL => ?_⟩⟩⟩⟩
    have s1 := (((same_new (o := .tup []) hp1).trans (same_new (o := .tup []) hp2)).trans (same_new (o := .tup [.ref p1, .ref p2, .int 0]) hp3)).trans (same_new (o := .lst [.ref p3]) hL)
    have hd : DpAll K (upd (upd (upd (upd H p1 (.tup [])) p2 (.tup [])) p3 (.tup [.ref p1, .ref p2, .int 0])) L (.lst [.ref p3])) [.ref p3] ((lv C 0).map dLf) := by
      have s4 := same_new (o := .lst [.ref p3]) hL
      have s34 := (same_new (o := .tup [.ref p1, .ref p2, .int 0]) hp3).trans s4
      refine .cons (.tup (SqT.of (s4 _ _ upd_same)) (.cons (.tup (SqT.of (s34 _ _ ((same_new hp2) _ _ upd_same))) .nil) (.cons (.tup (SqT.of (s34 _ _ upd_same)) .nil) (.cons (.int _) .nil)))) .nil
    have hL1 := upd_same (H := upd (upd (upd H p1 (.tup [])) p2 (.tup [])) p3 (.tup [.ref p1, .ref p2, .int 0])) (a := L) (o := .lst [.ref p3])
    generalize upd (upd (upd (upd H p1 (.tup [])) p2 (.tup [])) p3 (.tup [.ref p1, .ref p2, .int 0])) L (.lst [.ref p3]) = H1 at s1 hd hL1
    refine ⟨_, rfl, _, rfl, by omega, by omega, for_range (lo := 0) (n := n) (fun i σ H' => ∃ (L0 : Addr) (zs : List V) (y4 y5 y6 y7 y8 y9 y10 y11 : Option V), σ = [some (.ref pc), some (.int n), some (.int 64), some (.ref L0), y4, y5, y6, y7, y8, y9, y10, y11] ∧ Same H H' ∧ H' L0 = some (.lst zs) ∧ DpAll K H' zs ((lv C i).map dLf) ∧ (lv C i).length ≤ 64) ⟨L, _, _, _, _, _, _, _, _, _, rfl, s1, hL1, hd, (by show 1 ≤ 64; decide)⟩ ?_ ?_⟩
    · rintro i σ H2 hi ⟨L0, zs, y4, y5, y6, y7, y8, y9, y10, y11, rfl, s2, hL2, hzs, h64⟩
      have zl := dpA_len hzs
      rw [List.length_map] at zl
      have lok := lv_ok ok i
      refine ⟨Nat.zero_le _, fun F hF => ?_⟩
      have sF := same_new (o := .lst []) hF
      have hF3 := upd_same (H := H2) (a := F) (o := .lst [])
      generalize upd H2 F (.lst []) = H3 at sF hF3
      refine ⟨_, rfl, L0, rfl, ⟨_, SqL.of (sF _ _ hL2)⟩, for_list (K := K) (a := L0) (xs := zs) (fun j σ H' => ∃ (qs : List V) (y6 y7 y8 y9 y10 y11 : Option V), σ = [some (.ref pc), some (.int n), some (.int 64), some (.ref L0), some (.int (0 + (i : Int))), some (.ref F), y6, y7, y8, y9, y10, y11] ∧ Same H2 H' ∧ H' F = some (.lst qs) ∧ DpAll K H' qs ((((lv C i).take j).flatMap fun x => (rowOf C x.2.2).map (ext x)).map dLf)) ⟨[], _, _, _, _, _, _, rfl, sF, hF3, .nil⟩ (fun j σ H' _ ⟨_, _, _, _, _, _, _, _, s, _⟩ => SqL.of (s _ _ hL2)) ?_ ?_⟩
      · rintro j x σ H4 hj ⟨qs, y6, y7, y8, y9, y10, y11, rfl, s4, hF4, hqs⟩
        obtain ⟨lf, hlf, hx⟩ := dpA_mem hzs hj
        obtain ⟨k1, k2, k3⟩ := lok lf (List.mem_of_getElem? hlf)
        obtain ⟨pl, x0, x1, rfl, hpl, hd0, hd1⟩ := lf_at hx
        obtain ⟨p0, rfl, hp0⟩ := i_at hd0
        obtain ⟨p1, ys, rfl, hp1, hys⟩ := dp_tup hd1
        have yl := dpA_len hys
        rw [List.length_map] at yl
        obtain ⟨xr, hxr, hdr⟩ := dpA_get hA (rowOf_at k3)
        obtain ⟨pr, rs, rfl, hpr, hrs⟩ := dp_tup hdr
        have rl := dpA_len hrs
        rw [List.length_map] at rl
        have okr := ok.row _ (List.mem_of_getElem? (rowOf_at k3))
        have jl := (List.getElem?_eq_some_iff.mp hlf).1
        have fl := lenflat ok (l := (lv C i).take j) fun x hx => (lok x (List.mem_of_mem_take hx)).2.2
        rw [List.length_take] at fl
        have ql := dpA_len hqs
        rw [List.length_map] at ql
        have few := okr.few
        refine ⟨_, _, rfl, same_t s4 hpl, rfl, _, _, rfl, _, _, rfl, _, _, rfl, rfl, ?_⟩
        refine ⟨_, rfl, pc, _, _, _, rfl, rfl, same_t (s2.trans s4) hpc, atI_nat (j := 2) rfl, _, rfl, pq, _, _, _, rfl, rfl, same_t (s2.trans s4) hpq, atI_nat hxr, pr, rfl, ⟨_, same_t (s2.trans s4) hpr⟩, for_tup (K := K) (a := pr) (xs := rs) (fun k σ H' => ∃ (qs : List V) (y9 y10 y11 : Option V), σ = [some (.ref pc), some (.int n), some (.int 64), some (.ref L0), some (.int (0 + (i : Int))), some (.ref F), some (.ref p0), some (.ref p1), some (.int lf.2.2), y9, y10, y11] ∧ Same H2 H' ∧ H' F = some (.lst qs) ∧ DpAll K H' qs (((((lv C i).take j).flatMap fun x => (rowOf C x.2.2).map (ext x)) ++ ((rowOf C lf.2.2).take k).map (ext lf)).map dLf)) ⟨qs, _, _, _, rfl, s4, hF4, by rw [List.take_zero, List.map_nil, List.append_nil]; exact hqs⟩ (fun k σ H' _ ⟨_, _, _, _, _, s, _⟩ => same_t (s2.trans s) hpr) ?_ ?_⟩
        · rintro k y σ H5 hk ⟨qs, y9, y10, y11, rfl, s5, hF5, hqs⟩
          obtain ⟨br, hbr, hy⟩ := dpA_mem hrs hk
          have kl := (List.getElem?_eq_some_iff.mp hbr).1
          obtain ⟨pb, z0, z1, rfl, hpb, he0, he1⟩ := br_at hy
          obtain ⟨q0, rfl, hq0⟩ := i_at he0
          have okb := okr.to br (List.mem_of_getElem? hbr)
          have short := okr.cm.short br.1 (List.mem_map.mpr ⟨br, List.mem_of_getElem? hbr, rfl⟩)
          have s25 := s2.trans s5
          have ql2 := dpA_len hqs
          rw [List.length_map, List.length_append, List.length_map, List.length_take] at ql2
          refine ⟨_, _, rfl, same_t s25 hpb, rfl, _, _, rfl, _, _, rfl, _, _, rfl, rfl, ?_⟩
          refine ⟨_, rfl, .inl ⟨rfl, _, SqL.of hF5⟩, _, rfl, _, rfl, ?_⟩
          refine catA_mono (cat_D (same_t s5 hp0) (same_t s25 hq0) (ints_dp lf.1) (ints_dp br.1) (by rw [List.length_map, List.length_map]; omega)) fun v6 H6 ⟨s6, d6⟩ => ?_
          have s56 := s5.trans s6
          refine ⟨_, rfl, _, rfl, by show 1 ≤ sizeLine; decide, fun p7 hp7 => ?_⟩
          have s7 := same_new (o := .tup [z1]) hp7
          have hp71 := upd_same (H := H6) (a := p7) (o := .tup [z1])
          generalize upd H6 p7 (.tup [z1]) = H7 at s7 hp71
          have s67 := s6.trans s7
          refine catA_mono (cat_D (same_t (s5.trans s67) hp1) (SqT.of hp71) (dpA_same (s5.trans s67) _ _ hys) (.cons (dp_same (s25.trans s67) _ _ he1) .nil) (by rw [List.length_map]; show _ + 1 ≤ _; omega)) fun v8 H8 ⟨s8, d8⟩ => ?_
          refine ⟨_, rfl, by show 3 ≤ sizeLine; decide, fun pn hpn => ?_⟩
          have s9 := (s67.trans s8).trans (same_new (o := .tup [v6, v8, .int br.2.2]) hpn)
          have sn := same_new (o := .tup [v6, v8, .int br.2.2]) hpn
          have hpn9 := upd_same (H := H8) (a := pn) (o := .tup [v6, v8, .int br.2.2])
          generalize upd H8 pn (.tup [v6, v8, .int br.2.2]) = H9 at s9 sn hpn9
          have hF9 := s9 _ _ hF5
          have kF := keepT_nt (o := .lst (qs ++ [.ref pn])) (nt_lst _) hF9
          have dn : Dp K H9 (.ref pn) (dLf (ext lf br)) := by
            refine .tup (SqT.of hpn9) (.cons ?_ (.cons ?_ (.cons (.int _) .nil)))
            · have := dp_same (s7.trans (s8.trans sn)) _ _ d6
              rw [← List.map_append] at this
              exact this
            · have := dp_same sn _ _ d8
              show Dp K H9 v8 (.tuple ((lf.2.1 ++ [br.2.1]).map dSh))
              rw [List.map_append]
              exact this
          refine ⟨F, qs, _, rfl, rfl, hF9, line6 (by omega), qs ++ [.ref pn], _, _, _, rfl, same_mut (s5.trans s9) hF, upd_same, ?_⟩
          rw [List.take_add_one, hbr, List.map_append (f := ext lf), ← List.append_assoc, List.map_append (f := dLf)]
          exact dpA_snoc (dpA_keep kF _ _ (noLs_lf _) (dpA_same s9 _ _ hqs)) (dp_keep kF _ _ (dLf_noL _) dn)
        · rintro σ H5 ⟨qs, y9, y10, y11, rfl, s5, hF5, hqs⟩
          rw [rl, List.take_length] at hqs
          refine ⟨qs, _, _, _, _, _, _, rfl, s5, hF5, ?_⟩
          rw [flat_take hlf]
          exact hqs
      · rintro σ H4 ⟨qs, y6, y7, y8, y9, y10, y11, rfl, s4, hF4, hqs⟩
        rw [zl, List.take_length] at hqs
        have ql := dpA_len hqs
        rw [List.length_map] at ql
        have hqs' : DpAll K H4 qs ((lv C (i + 1)).map dLf) := hqs
        refine ⟨_, rfl, _, rfl, _, _, rfl, .inl ⟨_, SqL.of hF4, rfl⟩, _, rfl, _, _, rfl, rfl, _, rfl, ?_⟩
        refine ite2 (fun _ => qn _ (s2.trans s4)) (fun h => ⟨F, qs, _, _, _, _, _, _, _, _, rfl, s2.trans s4, hF4, hqs', ?_⟩)
        have h' : ¬ ((64 : Int) < (qs.length : Int)) := fun k => h (decide_eq_true k)
        have ql' := dpA_len hqs'
        rw [List.length_map] at ql'
        omega
    · rintro σ H2 ⟨L0, zs, y4, y5, y6, y7, y8, y9, y10, y11, rfl, s2, hL2, hzs, h64⟩
      exact ⟨_, rfl, q _ _ s2 (.lst (SqL.of hL2) hzs) h64⟩
end
end Mt
namespace Mt
open PySem PySem.Spec PyProof.Rows L2
def ws (W : List (Str × Int)) (l : List (List Str)) : Int := (l.map (wv W)).sum
theorem ws_snoc (W : List (Str × Int)) (l : List (List Str)) (s : List Str) : ws W (l ++ [s]) = ws W l + wv W s := by
  unfold ws
  rw [List.map_append, List.sum_append]
  simp
theorem ws_take (W : List (Str × Int)) {l : List (List Str)} {i : Nat} {s : List Str} (h : l[i]? = some s) : ws W (l.take (i + 1)) = ws W (l.take i) + wv W s := by
  rw [List.take_add_one, h]
  exact ws_snoc W _ s
def spOver (K : PySem.W.Frag) : Sp := fun vs H Q _ => ∃ (vc vw : V) (n : Nat) (base : Int) (C : Chn) (W : List (Str × Int)), vs = [vc, vw, .int n] ∧ Dp K H vc (dChn base C) ∧ ChnOk base C ∧ WAt K H vw W ∧ (W.map (·.1)).Nodup ∧ W.length ≤ 1000 ∧ n ≤ 10 ∧
  (∀ H', Same H H' → Q .non H') ∧ ∀ H' p, Same H H' → H' p = some (.tup [.int (mn ((lv C n).map fun x => ws W x.2.1)), .int (mx ((lv C n).map fun x => ws W x.2.1))]) → Q (.ref p) H'
theorem lv_pos {base : Int} {C : Chn} (ok : ChnOk base C) : ∀ n, lv C n ≠ []
  | 0 => by simp [lv]
  | n + 1 => fun h => by
    have ih := lv_pos ok n
    obtain ⟨x, hx⟩ := List.exists_mem_of_ne_nil _ ih
    obtain ⟨_, _, h3⟩ := lv_ok ok n x hx
    have okr := ok.row _ (List.mem_of_getElem? (rowOf_at h3))
    obtain ⟨b, hb⟩ := List.exists_mem_of_ne_nil _ (List.length_pos_iff.mp okr.ne)
    have : ext x b ∈ lv C (n + 1) := List.mem_flatMap.mpr ⟨x, hx, List.mem_map.mpr ⟨b, hb, rfl⟩⟩
    rw [h] at this
    exact absurd this List.not_mem_nil
/-- what is shown on the ways is short -/
theorem lv_sh {base : Int} {C : Chn} (ok : ChnOk base C) : ∀ (n : Nat) (x : Lf), x ∈ lv C n → ∀ s ∈ x.2.1, s.length ≤ 6
  | 0, x, h => by
    have : x = ([], [], 0) := List.mem_singleton.mp h
    rw [this]
    exact fun _ h => absurd h List.not_mem_nil
  | n + 1, x, h => by
    obtain ⟨y, hy, h⟩ := List.mem_flatMap.mp h
    obtain ⟨b, hb, rfl⟩ := List.mem_map.mp h
    obtain ⟨_, _, h3⟩ := lv_ok ok n y hy
    have okr := ok.row _ (List.mem_of_getElem? (rowOf_at h3))
    intro s hs
    rcases List.mem_append.mp hs with h | h
    · exact lv_sh ok n y hy s h
    · rw [List.mem_singleton.mp h]
      exact (okr.to b hb).2
section
variable {P : Program} {w : World} {K : PySem.W.Frag} {mg : Str → Option Value} {base : Heap}
theorem ok__law_over_leaves (T : Txt K mg) (D__law_worth : Kept P w K mg base 1 "_law_worth" ["worths", "shown"] (spWorthOf K)) (D__law_leaves : Kept P w K mg base 1 "_law_leaves" ["chain", "n", "most"] (spLeaves K)) {f : Addr} {fd : FuncData} (F : FnP K "_law_over_leaves" s__law_over_leaves f fd) : FnOk P w K mg base CX0 2 f fd ["chain", "worths", "n"] (spOver K) := by
  refine F.ok sc__law_over_leaves (fun vs H Q E h => ?_) (fun cdv A outer s H vs Q E hr h => ?_)
  · obtain ⟨vc, vw, n, b, C, W, rfl, _⟩ := h
    rfl
  · obtain ⟨vc, vw, n, b, C, W, rfl, hC, ok, hw, nd, hwl, hn, qn, q⟩ := h
    refine ⟨_, PSs.nox (pss_cons (ps_set (i := 3) sc__law_over_leaves.nd rfl (Or.inl rfl) (pe_d D__law_leaves (hr.mono (by decide)) (by rfl) (pa_cons (pv 0) (pa_cons (pv 2) (pa_cons pe_int pa_nil)))))
      (pss_cons (ps_if (pt_cmpR op_isN (pv 3) pe_non (nomark _)) (pss_one (ps_ret pe_non)) pss_nil)
      (pss_cons (ps_set (i := 4) sc__law_over_leaves.nd rfl (Or.inl rfl) (pe_lst pa_nil))
      (pss_cons (ps_for PassesOwn.never rfl (pi_list (pv 3)) (pg_tup rfl (pgs_cons (pg_name (i := 5) sc__law_over_leaves.nd rfl (Or.inl rfl)) (pgs_cons (pg_name (i := 6) sc__law_over_leaves.nd rfl (Or.inl rfl)) (pgs_cons (pg_name (i := 7) sc__law_over_leaves.nd rfl (Or.inl rfl)) pgs_nil)))) (pss_one (ps_expr (pe_bm PySem.F.plainAttrs_list PySem.F.slot_list_append PySem.F.type_list_append mt_append (pv 4) (pa_cons (pe_callB (cr_sum rfl) (by rfl) T.b_sum (by decide +kernel) (pa_cons (pe_lc (own := [("shown", 8)]) (g := (gName 8)) (tt := tYes) rfl sc__law_over_leaves.nd (pi_tup (pv 6)) (blkOk_by (N := N__law_over_leaves) (sc := defScope s__law_over_leaves) (by decide +kernel)) (fun _ _ _ _ _ => (pg_name (i := 8) sc__law_over_leaves.nd rfl (Or.inl rfl))) (fun _ _ _ _ _ => pts_nil) (fun _ _ _ _ _ => (pe_d D__law_worth (hr.mono (by decide)) (by rfl) (pa_cons (pv 1) (pa_cons (pv 8) pa_nil))))) pa_nil)) pa_nil)))))
      (pss_one (ps_ret (pe_tup (pa_cons (pe_callB (cr_min rfl) (by rfl) T.b_min (by decide +kernel) (pa_cons (pv 4) pa_nil)) (pa_cons (pe_callB (cr_max rfl) (by rfl) T.b_max (by decide +kernel) (pa_cons (pv 4) pa_nil)) pa_nil))))))))), ?_⟩
    refine ⟨_, rfl, _, rfl, vc, n, b, C, rfl, hC, ok, hn, fun H1 s1 => ?_, fun H1 v s1 hl h64 => ?_⟩
    · exact ⟨_, rfl, rfl, _, rfl, qn _ s1⟩
    · obtain ⟨L0, zs, rfl, hL0, hzs⟩ := dp_lst hl
      have lok := lv_ok ok n
      have lsh := lv_sh ok n
      have lpos := lv_pos ok n
      generalize lv C n = Lv at q hl hzs h64 lok lsh lpos
      have zl := dpA_len hzs
      rw [List.length_map] at zl
      refine ⟨_, rfl, rfl, _, rfl, Nat.zero_le _, fun L hL => ?_⟩
      have s2 := same_new (o := .lst []) hL
      have hL2 := upd_same (H := H1) (a := L) (o := .lst [])
      generalize upd H1 L (.lst []) = H2 at s2 hL2
      refine ⟨_, rfl, L0, rfl, ⟨_, same_l s2 hL0⟩, for_list (K := K) (a := L0) (xs := zs) (fun i σ H' => ∃ (y5 y6 y7 : Option V), σ = [some vc, some vw, some (.int n), some (.ref L0), some (.ref L), y5, y6, y7, none] ∧ Same H1 H' ∧ H' L = some (.lst (((Lv.take i).map fun x => ws W x.2.1).map V.int))) ⟨_, _, _, rfl, s2, hL2⟩ (fun i σ H' _ ⟨_, _, _, _, s, _⟩ => same_l s hL0) ?_ ?_⟩
      · rintro i x σ H3 hi ⟨y5, y6, y7, rfl, s3, hL3⟩
        obtain ⟨lf, hlf, hx⟩ := dpA_mem hzs hi
        have hm := List.mem_of_getElem? hlf
        obtain ⟨k1, k2, k3⟩ := lok lf hm
        obtain ⟨pl, x0, x1, rfl, hpl, hd0, hd1⟩ := lf_at hx
        obtain ⟨p1, ys, rfl, hp1, hys⟩ := dp_tup hd1
        have yl := dpA_len hys
        rw [List.length_map] at yl
        have il := (List.getElem?_eq_some_iff.mp hlf).1
        refine ⟨_, _, rfl, same_t s3 hpl, rfl, _, _, rfl, _, _, rfl, _, _, rfl, rfl, ?_⟩
        refine ⟨_, rfl, .inl ⟨rfl, _, SqL.of hL3⟩, _, rfl, p1, rfl, ⟨_, same_t s3 hp1⟩, fun M hM => lc_tup (K := K) (a := p1) (xs := ys) (fun j H' => Same H3 H' ∧ H' M = some (.lst (((lf.2.1.take j).map (wv W)).map V.int))) ⟨same_new hM, upd_same⟩ (fun j H' _ e => same_t (s3.trans e.1) hp1) ?_ ?_⟩
        · rintro j y H4 hj ⟨s4, hM4⟩
          obtain ⟨sh, hsh, hy⟩ := dpA_mem hys hj
          have h6 := lsh lf hm sh (List.mem_of_getElem? hsh)
          have jl := (List.getElem?_eq_some_iff.mp hsh).1
          have s14 := s1.trans (s3.trans s4)
          refine ⟨rfl, _, rfl, _, rfl, vw, y, W, sh, rfl, hw.same s14, nd, hwl, dp_same (s3.trans s4) _ _ hy, by omega, fun H5 s5 => ⟨_, s5 _ _ hM4, ?_, same_mut (s4.trans s5) hM, ?_⟩⟩
          · rw [List.length_map, List.length_map, List.length_take]
            exact line6 (by omega)
          · rw [upd_same, List.take_add_one, hsh, List.map_append, List.map_append]
            rfl
        · rintro H4 ⟨s4, hM4⟩
          rw [yl, List.take_length] at hM4
          refine ⟨M, _, rfl, SqL.of hM4, L, _, _, rfl, rfl, s4 _ _ hL3, ?_, _, _, _, rfl, same_mut (s3.trans s4) hL, ?_⟩
          · rw [List.length_map, List.length_map, List.length_take]
            exact line6 (by omega)
          · rw [upd_same, List.take_add_one, hlf, List.map_append, List.map_append]
            rfl
      · rintro σ H3 ⟨y5, y6, y7, rfl, s3, hL3⟩
        rw [zl, List.take_length] at hL3
        have pos : 0 < (Lv.map fun x => ws W x.2.1).length := by
          rw [List.length_map]
          exact List.length_pos_iff.mpr lpos
        refine ⟨_, rfl, L, _, rfl, SqL.of hL3, pos, fun m hm hmin => ⟨_, rfl, L, _, rfl, SqL.of hL3, pos, fun m' hm' hmax => ⟨by show 2 ≤ sizeLine; decide, fun p hp => ?_⟩⟩⟩
        rw [← mn_eq hm hmin, ← mx_eq hm' hmax]
        exact q _ p (s1.trans (s3.trans (same_new hp))) upd_same
end
end Mt
namespace Mt
open PySem PySem.Spec PyProof.Rows L2
abbrev PQ : Type := List (Int × Nat)
def rowR (R : WR) (s : Nat) : List (Int × Nat) := (R[s]?).getD []
def stepP (R : WR) (P : PQ) : PQ := P.flatMap fun q => (rowR R q.2).map fun b => (q.1 + b.1, b.2)
def evL (R : WR) (m : Nat) (P : PQ) : Int := mn (P.map fun q => q.1 + at0 (lo R m) q.2)
def evH (R : WR) (m : Nat) (P : PQ) : Int := mx (P.map fun q => q.1 + at0 (hi R m) q.2)
structure POk (R : WR) (P : PQ) : Prop where
  ne : P ≠ []
  to : ∀ q ∈ P, q.2 < R.length
theorem rowR_at {R : WR} {s : Nat} (h : s < R.length) : R[s]? = some (rowR R s) := by
  unfold rowR
  rw [List.getElem?_eq_getElem h]
  rfl
theorem nxt_at (l : List Int) (e : Int × Nat) : nxt l e = e.1 + at0 l e.2 := rfl
theorem lo_at {R : WR} {s : Nat} (h : s < R.length) (m : Nat) : at0 (lo R (m + 1)) s = mn ((rowR R s).map (nxt (lo R m))) := by
  unfold at0
  show (((R.map _)[s]?).getD 0) = _
  rw [List.getElem?_map, rowR_at h]
  rfl
theorem hi_at {R : WR} {s : Nat} (h : s < R.length) (m : Nat) : at0 (hi R (m + 1)) s = mx ((rowR R s).map (nxt (hi R m))) := by
  unfold at0
  show (((R.map _)[s]?).getD 0) = _
  rw [List.getElem?_map, rowR_at h]
  rfl
theorem row_ne {R : WR} (ok : ROk R) {s : Nat} (h : s < R.length) : rowR R s ≠ [] := List.length_pos_iff.mp (ok.row _ (List.mem_of_getElem? (rowR_at h))).1
theorem row_to {R : WR} (ok : ROk R) {s : Nat} (h : s < R.length) : ∀ e ∈ rowR R s, e.2 < R.length := (ok.row _ (List.mem_of_getElem? (rowR_at h))).2.2
theorem mem_step {R : WR} {P : PQ} {x : Int × Nat} : x ∈ stepP R P ↔ ∃ q ∈ P, ∃ b ∈ rowR R q.2, x = (q.1 + b.1, b.2) := by
  unfold stepP
  constructor
  · intro h
    obtain ⟨q, hq, h⟩ := List.mem_flatMap.mp h
    obtain ⟨b, hb, rfl⟩ := List.mem_map.mp h
    exact ⟨q, hq, b, hb, rfl⟩
  · rintro ⟨q, hq, b, hb, rfl⟩
    exact List.mem_flatMap.mpr ⟨q, hq, List.mem_map.mpr ⟨b, hb, rfl⟩⟩
theorem POk.step {R : WR} (ok : ROk R) {P : PQ} (p : POk R P) : POk R (stepP R P) := by
  refine ⟨fun h => ?_, fun x hx => ?_⟩
  · obtain ⟨q, hq⟩ := List.exists_mem_of_ne_nil _ p.ne
    obtain ⟨b, hb⟩ := List.exists_mem_of_ne_nil _ (row_ne ok (p.to q hq))
    have := mem_step.mpr ⟨q, hq, b, hb, rfl⟩
    rw [h] at this
    exact absurd this List.not_mem_nil
  · obtain ⟨q, hq, b, hb, rfl⟩ := mem_step.mp hx
    exact row_to ok (p.to q hq) b hb
theorem evL_step {R : WR} (ok : ROk R) {P : PQ} (p : POk R P) (m : Nat) : evL R m (stepP R P) = evL R (m + 1) P := by
  refine mn_eq ?_ ?_
  · have h := mn_mem (l := P.map fun q => q.1 + at0 (lo R (m + 1)) q.2) (by simpa using p.ne)
    obtain ⟨q, hq, e⟩ := List.mem_map.mp h
    have h2 := mn_mem (l := (rowR R q.2).map (nxt (lo R m))) (by simpa using row_ne ok (p.to q hq))
    obtain ⟨b, hb, e2⟩ := List.mem_map.mp h2
    refine List.mem_map.mpr ⟨(q.1 + b.1, b.2), mem_step.mpr ⟨q, hq, b, hb, rfl⟩, ?_⟩
    have e : q.1 + at0 (lo R (m + 1)) q.2 = evL R (m + 1) P := e
    rw [← e, lo_at (p.to q hq), ← e2, nxt_at]
    show q.1 + b.1 + at0 (lo R m) b.2 = _
    omega
  · intro y hy
    obtain ⟨x, hx, rfl⟩ := List.mem_map.mp hy
    obtain ⟨q, hq, b, hb, rfl⟩ := mem_step.mp hx
    have h1 : evL R (m + 1) P ≤ q.1 + at0 (lo R (m + 1)) q.2 := mn_le (List.mem_map.mpr ⟨q, hq, rfl⟩)
    rw [lo_at (p.to q hq)] at h1
    have h2 : mn ((rowR R q.2).map (nxt (lo R m))) ≤ nxt (lo R m) b := mn_le (List.mem_map.mpr ⟨b, hb, rfl⟩)
    rw [nxt_at] at h2
    show _ ≤ q.1 + b.1 + at0 (lo R m) b.2
    omega
theorem evH_step {R : WR} (ok : ROk R) {P : PQ} (p : POk R P) (m : Nat) : evH R m (stepP R P) = evH R (m + 1) P := by
  refine mx_eq ?_ ?_
  · have h := mx_mem (l := P.map fun q => q.1 + at0 (hi R (m + 1)) q.2) (by simpa using p.ne)
    obtain ⟨q, hq, e⟩ := List.mem_map.mp h
    have h2 := mx_mem (l := (rowR R q.2).map (nxt (hi R m))) (by simpa using row_ne ok (p.to q hq))
    obtain ⟨b, hb, e2⟩ := List.mem_map.mp h2
    refine List.mem_map.mpr ⟨(q.1 + b.1, b.2), mem_step.mpr ⟨q, hq, b, hb, rfl⟩, ?_⟩
    have e : q.1 + at0 (hi R (m + 1)) q.2 = evH R (m + 1) P := e
    rw [← e, hi_at (p.to q hq), ← e2, nxt_at]
    show q.1 + b.1 + at0 (hi R m) b.2 = _
    omega
  · intro y hy
    obtain ⟨x, hx, rfl⟩ := List.mem_map.mp hy
    obtain ⟨q, hq, b, hb, rfl⟩ := mem_step.mp hx
    have h1 : q.1 + at0 (hi R (m + 1)) q.2 ≤ evH R (m + 1) P := mx_ge (List.mem_map.mpr ⟨q, hq, rfl⟩)
    rw [hi_at (p.to q hq)] at h1
    have h2 : nxt (hi R m) b ≤ mx ((rowR R q.2).map (nxt (hi R m))) := mx_ge (List.mem_map.mpr ⟨b, hb, rfl⟩)
    rw [nxt_at] at h2
    show q.1 + b.1 + at0 (hi R m) b.2 ≤ _
    omega
/-- P' has all that counts of P -/
theorem evL_dom {R : WR} {P P' : PQ} (m : Nat) (ne : P ≠ []) (h1 : ∀ q ∈ P', q ∈ P) (h2 : ∀ q ∈ P, ∃ q' ∈ P', q'.2 = q.2 ∧ q'.1 ≤ q.1) : evL R m P' = evL R m P := by
  obtain ⟨q0, hq0⟩ := List.exists_mem_of_ne_nil _ ne
  obtain ⟨q1, hq1, _⟩ := h2 q0 hq0
  refine mn_eq ?_ ?_
  · have h := mn_mem (l := P.map fun q => q.1 + at0 (lo R m) q.2) (by simpa using ne)
    obtain ⟨q, hq, e⟩ := List.mem_map.mp h
    obtain ⟨q', hq', e1, e2⟩ := h2 q hq
    have h3 : evL R m P ≤ q'.1 + at0 (lo R m) q'.2 := mn_le (List.mem_map.mpr ⟨q', h1 q' hq', rfl⟩)
    have e : q.1 + at0 (lo R m) q.2 = evL R m P := e
    refine List.mem_map.mpr ⟨q', hq', ?_⟩
    rw [← e] at h3 ⊢
    rw [e1] at h3 ⊢
    omega
  · intro y hy
    obtain ⟨q, hq, rfl⟩ := List.mem_map.mp hy
    exact mn_le (List.mem_map.mpr ⟨q, h1 q hq, rfl⟩)
theorem evH_dom {R : WR} {P P' : PQ} (m : Nat) (ne : P ≠ []) (h1 : ∀ q ∈ P', q ∈ P) (h2 : ∀ q ∈ P, ∃ q' ∈ P', q'.2 = q.2 ∧ q.1 ≤ q'.1) : evH R m P' = evH R m P := by
  obtain ⟨q0, hq0⟩ := List.exists_mem_of_ne_nil _ ne
  obtain ⟨q1, hq1, _⟩ := h2 q0 hq0
  refine mx_eq ?_ ?_
  · have h := mx_mem (l := P.map fun q => q.1 + at0 (hi R m) q.2) (by simpa using ne)
    obtain ⟨q, hq, e⟩ := List.mem_map.mp h
    obtain ⟨q', hq', e1, e2⟩ := h2 q hq
    have h3 : q'.1 + at0 (hi R m) q'.2 ≤ evH R m P := mx_ge (List.mem_map.mpr ⟨q', h1 q' hq', rfl⟩)
    have e : q.1 + at0 (hi R m) q.2 = evH R m P := e
    refine List.mem_map.mpr ⟨q', hq', ?_⟩
    rw [← e] at h3 ⊢
    rw [e1] at h3 ⊢
    omega
  · intro y hy
    obtain ⟨q, hq, rfl⟩ := List.mem_map.mp hy
    exact mx_ge (List.mem_map.mpr ⟨q, h1 q hq, rfl⟩)
theorem zero_at (R : WR) (i : Nat) : at0 (R.map fun _ => (0 : Int)) i = 0 := by
  unfold at0
  rw [List.getElem?_map]
  cases R[i]? <;> rfl
theorem evL_zero (R : WR) (P : PQ) : evL R 0 P = mn (P.map (·.1)) := by
  unfold evL
  congr 1
  refine List.map_congr_left fun q _ => ?_
  show q.1 + at0 (R.map fun _ => (0 : Int)) q.2 = q.1
  rw [zero_at]
  omega
theorem evH_zero (R : WR) (P : PQ) : evH R 0 P = mx (P.map (·.1)) := by
  unfold evH
  congr 1
  refine List.map_congr_left fun q _ => ?_
  show q.1 + at0 (R.map fun _ => (0 : Int)) q.2 = q.1
  rw [zero_at]
  omega
/-- all ways, one by one -/
def pn (R : WR) : Nat → PQ
  | 0 => [(0, 0)]
  | n + 1 => stepP R (pn R n)
theorem pn_ok {R : WR} (ok : ROk R) : ∀ n, POk R (pn R n)
  | 0 => ⟨by simp [pn], fun q hq => by rw [List.mem_singleton.mp hq]; exact ok.pos⟩
  | n + 1 => (pn_ok ok n).step ok
theorem pn_L {R : WR} (ok : ROk R) : ∀ n m, evL R m (pn R n) = at0 (lo R (m + n)) 0
  | 0, m => by
    show 0 + at0 (lo R m) 0 = _
    rw [Int.zero_add]
    rfl
  | n + 1, m => by
    show evL R m (stepP R (pn R n)) = _
    rw [evL_step ok (pn_ok ok n), pn_L ok n (m + 1)]
    rw [show m + 1 + n = m + (n + 1) by omega]
theorem pn_H {R : WR} (ok : ROk R) : ∀ n m, evH R m (pn R n) = at0 (hi R (m + n)) 0
  | 0, m => by
    show -(-(0 + at0 (hi R m) 0)) = _
    rw [Int.zero_add, Int.neg_neg]
    rfl
  | n + 1, m => by
    show evH R m (stepP R (pn R n)) = _
    rw [evH_step ok (pn_ok ok n), pn_H ok n (m + 1)]
    rw [show m + 1 + n = m + (n + 1) by omega]
theorem rowR_map (C : Chn) (W : List (Str × Int)) (s : Nat) : rowR (C.map (wRow W)) s = (rowOf C s).map (wBr W) := by
  unfold rowR rowOf
  rw [List.getElem?_map]
  cases C[s]? <;> rfl
theorem lv_pn (C : Chn) (W : List (Str × Int)) : ∀ n, (lv C n).map (fun x => (ws W x.2.1, x.2.2)) = pn (C.map (wRow W)) n
  | 0 => rfl
  | n + 1 => by
    show ((lv C n).flatMap _).map _ = stepP _ (pn _ n)
    rw [← lv_pn C W n]
    unfold stepP
    rw [List.map_flatMap, List.flatMap_map]
    refine congrArg (fun f => List.flatMap f (lv C n)) (funext fun x => ?_)
    rw [rowR_map, List.map_map, List.map_map]
    refine List.map_congr_left fun b _ => ?_
    show (ws W (x.2.1 ++ [b.2.1]), b.2.2) = (ws W x.2.1 + wv W b.2.1, b.2.2)
    rw [ws_snoc]
theorem lv_lo {base : Int} {C : Chn} (ok : ChnOk base C) (W : List (Str × Int)) (n : Nat) : mn ((lv C n).map fun x => ws W x.2.1) = at0 (lo (C.map (wRow W)) n) 0 := by
  have h := pn_L (ROk.of ok W) n 0
  rw [evL_zero, ← lv_pn, List.map_map, Nat.zero_add] at h
  exact h
theorem lv_hi {base : Int} {C : Chn} (ok : ChnOk base C) (W : List (Str × Int)) (n : Nat) : mx ((lv C n).map fun x => ws W x.2.1) = at0 (hi (C.map (wRow W)) n) 0 := by
  have h := pn_H (ROk.of ok W) n 0
  rw [evH_zero, ← lv_pn, List.map_map, Nat.zero_add] at h
  exact h
theorem way_lv {C : Chn} {l : List (List Str)} {t : Nat} (h : Way C l t) : ∃ x ∈ lv C l.length, x.2.1 = l ∧ x.2.2 = t := by
  induction h with
  | nil => exact ⟨_, List.mem_singleton.mpr rfl, rfl, rfl⟩
  | @snoc l t r b hw hr hb ih =>
    obtain ⟨x, hx, e1, e2⟩ := ih
    rw [List.length_append]
    refine ⟨ext x b, List.mem_flatMap.mpr ⟨x, hx, List.mem_map.mpr ⟨b, ?_, rfl⟩⟩, ?_, rfl⟩
    · rw [e2]
      unfold rowOf
      rw [hr]
      exact hb
    · show x.2.1 ++ [b.2.1] = _
      rw [e1]
theorem way_between {base : Int} {C : Chn} (ok : ChnOk base C) (W : List (Str × Int)) {l : List (List Str)} {t : Nat} (h : Way C l t) : at0 (lo (C.map (wRow W)) l.length) 0 ≤ ws W l ∧ ws W l ≤ at0 (hi (C.map (wRow W)) l.length) 0 := by
  obtain ⟨x, hx, e1, _⟩ := way_lv h
  rw [← lv_lo ok, ← lv_hi ok, ← e1]
  exact ⟨mn_le (List.mem_map.mpr ⟨x, e1 ▸ hx, by rw [e1]⟩), mx_ge (List.mem_map.mpr ⟨x, e1 ▸ hx, by rw [e1]⟩)⟩
/-! ### other signs, no worths -/
def ngR (R : WR) : WR := R.map fun r => r.map fun e => (-e.1, e.2)
theorem at0_neg (l : List Int) (i : Nat) : at0 (l.map fun x => -x) i = -at0 l i := by
  unfold at0
  rw [List.getElem?_map]
  cases l[i]? <;> rfl
theorem neg_neg_map (l : List Int) : (l.map fun x => -x).map (fun x => -x) = l := by
  rw [List.map_map]
  exact (List.map_congr_left fun x _ => Int.neg_neg x).trans (List.map_id _)
theorem lo_ng (R : WR) : ∀ n, lo (ngR R) n = (hi R n).map fun x => -x
  | 0 => by
    show (R.map _).map _ = (R.map _).map _
    rw [List.map_map, List.map_map]
    rfl
  | n + 1 => by
    show (R.map _).map (fun row : List (Int × Nat) => mn (row.map (nxt (lo (ngR R) n)))) = (R.map fun row => mx (row.map (nxt (hi R n)))).map _
    rw [List.map_map, List.map_map, lo_ng R n]
    refine List.map_congr_left fun r _ => ?_
    show mn ((r.map fun e => (-e.1, e.2)).map (nxt _)) = -mx _
    unfold mx
    rw [Int.neg_neg, List.map_map, List.map_map]
    congr 1
    refine List.map_congr_left fun e _ => ?_
    show -e.1 + at0 ((hi R n).map fun x => -x) e.2 = -(e.1 + at0 (hi R n) e.2)
    rw [at0_neg]
    omega
theorem hi_ng (R : WR) : ∀ n, hi (ngR R) n = (lo R n).map fun x => -x
  | 0 => by
    show (R.map _).map _ = (R.map _).map _
    rw [List.map_map, List.map_map]
    rfl
  | n + 1 => by
    show (R.map _).map (fun row : List (Int × Nat) => mx (row.map (nxt (hi (ngR R) n)))) = (R.map fun row => mn (row.map (nxt (lo R n)))).map _
    rw [List.map_map, List.map_map, hi_ng R n]
    refine List.map_congr_left fun r _ => ?_
    show mx ((r.map fun e => (-e.1, e.2)).map (nxt _)) = -mn _
    unfold mx
    rw [List.map_map, List.map_map]
    congr 2
    refine List.map_congr_left fun e _ => ?_
    show -(-e.1 + at0 ((lo R n).map fun x => -x) e.2) = e.1 + at0 (lo R n) e.2
    rw [at0_neg]
    omega
def ngW (W : List (Str × Int)) : List (Str × Int) := W.map fun e => (e.1, -e.2)
theorem look_ng (z : Str) : ∀ W : List (Str × Int), look (ngW W) z = -look W z
  | [] => rfl
  | e :: W => by
    unfold look ngW
    rw [List.map_cons]
    by_cases k : e.1 = z
    · rw [List.find?_cons_of_pos (by simpa using k), List.find?_cons_of_pos (by simpa using k)]
      rfl
    · rw [List.find?_cons_of_neg (by simpa using k), List.find?_cons_of_neg (by simpa using k)]
      exact look_ng z W
theorem wv_ng (W : List (Str × Int)) : ∀ ss, wv (ngW W) ss = -wv W ss
  | [] => rfl
  | s :: r => by
    show look (ngW W) s + wv (ngW W) r = -(look W s + wv W r)
    rw [look_ng, wv_ng W r]
    omega
theorem rows_ng (C : Chn) (W : List (Str × Int)) : C.map (wRow (ngW W)) = ngR (C.map (wRow W)) := by
  unfold ngR
  rw [List.map_map]
  refine List.map_congr_left fun r _ => ?_
  show r.map (wBr (ngW W)) = (r.map (wBr W)).map _
  rw [List.map_map]
  refine List.map_congr_left fun b _ => ?_
  show (wv (ngW W) b.2.1, b.2.2) = (-wv W b.2.1, b.2.2)
  rw [wv_ng]
theorem lo_none {base : Int} {C : Chn} (ok : ChnOk base C) (n : Nat) : at0 (lo (C.map (wRow [])) n) 0 = 0 ∧ at0 (hi (C.map (wRow [])) n) 0 = 0 := by
  have z : ∀ l : List (List Str), ws [] l = 0 := fun l => by
    induction l with
    | nil => rfl
    | cons a r ih =>
      show wv [] a + ws [] r = 0
      rw [wv_nil, ih]
      rfl
  rw [← lv_lo ok, ← lv_hi ok]
  have ne := lv_pos ok n
  generalize lv C n = l at ne
  obtain ⟨x, hx⟩ := List.exists_mem_of_ne_nil _ ne
  refine ⟨mn_eq (List.mem_map.mpr ⟨x, hx, z _⟩) fun y hy => ?_, mx_eq (List.mem_map.mpr ⟨x, hx, z _⟩) fun y hy => ?_⟩
  · obtain ⟨u, _, rfl⟩ := List.mem_map.mp hy
    rw [z]
    exact Int.le_refl _
  · obtain ⟨u, _, rfl⟩ := List.mem_map.mp hy
    rw [z]
    exact Int.le_refl _
end Mt
namespace Mt
open PySem PySem.Spec PyProof.Rows L2
/-! ### the dict of extremes: a state, the place of its pair, the least, the greatest -/
abbrev En : Type := Nat × Addr × Int × Int
def kvE (e : En) : L2.Key × V := (.inl (e.1 : Int), .ref e.2.1)
def EAt (K : PySem.W.Frag) (H : Hp) (E : List En) : Prop := ∀ e ∈ E, SqT K H e.2.1 [.int e.2.2.1, .int e.2.2.2]
def findE (E : List En) (s : Nat) : Option En := E.find? fun e => decide (e.1 = s)
def putE (E : List En) (s : Nat) (a : Addr) (x y : Int) : List En := if (E.any fun e => decide (e.1 = s)) = true then E.map (fun e => if e.1 = s then (s, a, x, y) else e) else E ++ [(s, a, x, y)]
theorem EAt.keep {K : PySem.W.Frag} {H H' : Hp} {E : List En} (k : KeepT H H') (h : EAt K H E) : EAt K H' E := fun e he => sqt_keep k (h e he)
theorem EAt.same {K : PySem.W.Frag} {H H' : Hp} {E : List En} (s : Same H H') (h : EAt K H E) : EAt K H' E := h.keep (KeepT.of_same s)
theorem key_eq {s t : Nat} : decide ((kvE (s, 0, 0, 0)).1 = (.inl (t : Int) : L2.Key)) = decide (s = t) := by
  by_cases h : s = t
  · subst h
    simp [kvE]
  · rw [decide_eq_false h]
    refine decide_eq_false fun k => h ?_
    have : (s : Int) = t := Sum.inl.inj k
    omega
theorem kvE_key (e : En) (t : Nat) : decide ((kvE e).1 = (.inl (t : Int) : L2.Key)) = decide (e.1 = t) := key_eq (s := e.1)
theorem valV_E (E : List En) (s : Nat) : valV (E.map kvE) (.inl (s : Int)) = (findE E s).map fun e => .ref e.2.1 := by
  unfold valV findE
  rw [List.find?_map]
  rw [show ((fun kv : L2.Key × V => decide (kv.1 = .inl (s : Int))) ∘ kvE) = fun e : En => decide (e.1 = s) from funext fun e => kvE_key e s]
  cases E.find? fun e => decide (e.1 = s) <;> rfl
theorem put_kv (E : List En) (s : Nat) (a : Addr) (x y : Int) : putK (E.map kvE) (.inl (s : Int)) (.ref a) = (putE E s a x y).map kvE := by
  unfold putK putE
  have e1 : (E.map kvE).any (fun kv => decide (kv.1 = (.inl (s : Int) : L2.Key))) = E.any fun e => decide (e.1 = s) := by
    rw [List.any_map]
    exact congrArg (fun f => E.any f) (funext fun e => kvE_key e s)
  rw [e1]
  split
  · rw [List.map_map, List.map_map]
    refine List.map_congr_left fun e _ => ?_
    show (if (kvE e).1 = .inl (s : Int) then ((kvE e).1, V.ref a) else kvE e) = kvE (if e.1 = s then (s, a, x, y) else e)
    have h := kvE_key e s
    by_cases k : e.1 = s
    · rw [if_pos k, if_pos (by simpa [k] using h)]
      show ((.inl (e.1 : Int) : L2.Key), V.ref a) = (.inl (s : Int), .ref a)
      rw [k]
    · rw [if_neg k, if_neg (by simpa [k] using h)]
  · rw [List.map_append]
    rfl
def pL (E : List En) : PQ := E.map fun e => (e.2.2.1, e.1)
def pH (E : List En) : PQ := E.map fun e => (e.2.2.2, e.1)
def mg (E : List En) (t : Nat) (x y : Int) : Int × Int := match findE E t with
  | some e => (min x e.2.2.1, max y e.2.2.2)
  | none => (x, y)
structure Rep (E : List En) (PL PH : PQ) : Prop where
  nd : (E.map (·.1)).Nodup
  l1 : ∀ e ∈ E, (e.2.2.1, e.1) ∈ PL
  l2 : ∀ q ∈ PL, ∃ e ∈ E, e.1 = q.2 ∧ e.2.2.1 ≤ q.1
  h1 : ∀ e ∈ E, (e.2.2.2, e.1) ∈ PH
  h2 : ∀ q ∈ PH, ∃ e ∈ E, e.1 = q.2 ∧ q.1 ≤ e.2.2.2
theorem Rep.nil : Rep [] [] [] := ⟨List.nodup_nil, by simp, by simp, by simp, by simp⟩
theorem find_none {E : List En} {t : Nat} (h : findE E t = none) : ∀ e ∈ E, e.1 ≠ t := fun e he k => by
  have := List.find?_eq_none.mp h e he
  exact this (decide_eq_true k)
theorem find_some {E : List En} {t : Nat} {e : En} (h : findE E t = some e) : e ∈ E ∧ e.1 = t := ⟨List.mem_of_find?_eq_some h, of_decide_eq_true (List.find?_some (p := fun e : En => decide (e.1 = t)) h)⟩
theorem find_mem {E : List En} (nd : (E.map (·.1)).Nodup) {e : En} (he : e ∈ E) : findE E e.1 = some e := by
  induction E with
  | nil => exact absurd he List.not_mem_nil
  | cons a r ih =>
    have nd2 : a.1 ∉ r.map (·.1) ∧ (r.map (·.1)).Nodup := List.nodup_cons.mp nd
    unfold findE
    rcases List.mem_cons.mp he with rfl | h
    · rw [List.find?_cons_of_pos (by simp)]
    · have : ¬ a.1 = e.1 := fun k => nd2.1 (List.mem_map.mpr ⟨e, h, k.symm⟩)
      rw [List.find?_cons_of_neg (by simpa using this)]
      exact ih nd2.2 h
theorem rep_put {E : List En} {PL PH : PQ} (r : Rep E PL PH) (t : Nat) (a : Addr) (x y : Int) : Rep (putE E t a (mg E t x y).1 (mg E t x y).2) (PL ++ [(x, t)]) (PH ++ [(y, t)]) := by
  unfold mg
  cases hf : findE E t with
  | none =>
    have no := find_none hf
    have an : ¬ (E.any fun e => decide (e.1 = t)) = true := fun h => by
      obtain ⟨e, he, k⟩ := List.any_eq_true.mp h
      exact no e he (of_decide_eq_true k)
    unfold putE
    rw [if_neg an]
    refine ⟨?_, fun e he => ?_, fun q hq => ?_, fun e he => ?_, fun q hq => ?_⟩
    · rw [List.map_append]
      refine List.nodup_append.mpr ⟨r.nd, by simp, fun u hu v hv => ?_⟩
      obtain ⟨e, he, rfl⟩ := List.mem_map.mp hu
      have : v = t := by simpa using hv
      rw [this]
      exact no e he
    · rcases List.mem_append.mp he with h | h
      · exact List.mem_append.mpr (.inl (r.l1 e h))
      · rw [List.mem_singleton.mp h]
        exact List.mem_append.mpr (.inr (List.mem_singleton.mpr rfl))
    · rcases List.mem_append.mp hq with h | h
      · obtain ⟨e, he, k⟩ := r.l2 q h
        exact ⟨e, List.mem_append.mpr (.inl he), k⟩
      · rw [List.mem_singleton.mp h]
        exact ⟨_, List.mem_append.mpr (.inr (List.mem_singleton.mpr rfl)), rfl, Int.le_refl _⟩
    · rcases List.mem_append.mp he with h | h
      · exact List.mem_append.mpr (.inl (r.h1 e h))
      · rw [List.mem_singleton.mp h]
        exact List.mem_append.mpr (.inr (List.mem_singleton.mpr rfl))
    · rcases List.mem_append.mp hq with h | h
      · obtain ⟨e, he, k⟩ := r.h2 q h
        exact ⟨e, List.mem_append.mpr (.inl he), k⟩
      · rw [List.mem_singleton.mp h]
        exact ⟨_, List.mem_append.mpr (.inr (List.mem_singleton.mpr rfl)), rfl, Int.le_refl _⟩
  | some e0 =>
    obtain ⟨he0, ht⟩ := find_some hf
    have an : (E.any fun e => decide (e.1 = t)) = true := List.any_eq_true.mpr ⟨e0, he0, decide_eq_true ht⟩
    unfold putE
    rw [if_pos an]
    have hmem : ∀ e ∈ E, (if e.1 = t then (t, a, min x e0.2.2.1, max y e0.2.2.2) else e) ∈ E.map (fun e => if e.1 = t then (t, a, min x e0.2.2.1, max y e0.2.2.2) else e) := fun e he => List.mem_map.mpr ⟨e, he, rfl⟩
    have huniq : ∀ e ∈ E, e.1 = t → e = e0 := fun e he k => by
      have a1 := find_mem r.nd he
      rw [k, hf] at a1
      exact (Option.some.inj a1).symm
    refine ⟨?_, fun e he => ?_, fun q hq => ?_, fun e he => ?_, fun q hq => ?_⟩
    · rw [List.map_map]
      rw [show E.map ((fun e : En => e.1) ∘ fun e => if e.1 = t then (t, a, min x e0.2.2.1, max y e0.2.2.2) else e) = E.map (·.1) from List.map_congr_left fun e _ => by
        show (if e.1 = t then (t, a, min x e0.2.2.1, max y e0.2.2.2) else e).1 = e.1
        split
        · rename_i k
          exact k.symm
        · rfl]
      exact r.nd
    · obtain ⟨e', he', rfl⟩ := List.mem_map.mp he
      split
      · show (min x e0.2.2.1, t) ∈ _
        by_cases k : x ≤ e0.2.2.1
        · rw [Int.min_eq_left k]
          exact List.mem_append.mpr (.inr (List.mem_singleton.mpr rfl))
        · rw [Int.min_eq_right (by omega)]
          have := r.l1 e0 he0
          rw [ht] at this
          exact List.mem_append.mpr (.inl this)
      · exact List.mem_append.mpr (.inl (r.l1 e' he'))
    · rcases List.mem_append.mp hq with h | h
      · obtain ⟨e, he, k1, k2⟩ := r.l2 q h
        refine ⟨_, hmem e he, ?_⟩
        by_cases k : e.1 = t
        · rw [if_pos k]
          refine ⟨k.symm.trans k1, ?_⟩
          rw [huniq e he k] at k2
          exact Int.le_trans (Int.min_le_right _ _) k2
        · rw [if_neg k]
          exact ⟨k1, k2⟩
      · rw [List.mem_singleton.mp h]
        refine ⟨_, hmem e0 he0, ?_⟩
        rw [if_pos ht]
        exact ⟨rfl, Int.min_le_left _ _⟩
    · obtain ⟨e', he', rfl⟩ := List.mem_map.mp he
      split
      · show (max y e0.2.2.2, t) ∈ _
        by_cases k : e0.2.2.2 ≤ y
        · rw [Int.max_eq_left k]
          exact List.mem_append.mpr (.inr (List.mem_singleton.mpr rfl))
        · rw [Int.max_eq_right (by omega)]
          have := r.h1 e0 he0
          rw [ht] at this
          exact List.mem_append.mpr (.inl this)
      · exact List.mem_append.mpr (.inl (r.h1 e' he'))
    · rcases List.mem_append.mp hq with h | h
      · obtain ⟨e, he, k1, k2⟩ := r.h2 q h
        refine ⟨_, hmem e he, ?_⟩
        by_cases k : e.1 = t
        · rw [if_pos k]
          refine ⟨k.symm.trans k1, ?_⟩
          rw [huniq e he k] at k2
          exact Int.le_trans k2 (Int.le_max_right _ _)
        · rw [if_neg k]
          exact ⟨k1, k2⟩
      · rw [List.mem_singleton.mp h]
        refine ⟨_, hmem e0 he0, ?_⟩
        rw [if_pos ht]
        exact ⟨rfl, Int.le_max_left _ _⟩
theorem nodup_le : ∀ (n : Nat) {l : List Nat}, l.Nodup → (∀ x ∈ l, x < n) → l.length ≤ n
  | 0, l, _, h => by
    cases l with
    | nil => exact Nat.le_refl _
    | cons x r => exact absurd (h x List.mem_cons_self) (Nat.not_lt_zero x)
  | n + 1, l, nd, h => by
    have h2 := nodup_le n (l := l.erase n) (nd.erase n) fun x hx => by
      have h3 := h x (List.mem_of_mem_erase hx)
      have : x ≠ n := fun e => by
        subst e
        exact (List.Nodup.not_mem_erase nd) hx
      omega
    by_cases k : n ∈ l
    · rw [List.length_erase_of_mem k] at h2
      omega
    · rw [List.erase_of_not_mem k] at h2
      omega
theorem Rep.few {E : List En} {PL PH : PQ} (r : Rep E PL PH) {n : Nat} (h : ∀ q ∈ PL, q.2 < n) : E.length ≤ n := by
  rw [← List.length_map (as := E) (·.1)]
  refine nodup_le n r.nd fun x hx => ?_
  obtain ⟨e, he, rfl⟩ := List.mem_map.mp hx
  exact h _ (r.l1 e he)
theorem Rep.pl {E : List En} {PL PH : PQ} (r : Rep E PL PH) : (∀ q ∈ pL E, q ∈ PL) ∧ ∀ q ∈ PL, ∃ q' ∈ pL E, q'.2 = q.2 ∧ q'.1 ≤ q.1 := by
  refine ⟨fun q hq => ?_, fun q hq => ?_⟩
  · obtain ⟨e, he, rfl⟩ := List.mem_map.mp hq
    exact r.l1 e he
  · obtain ⟨e, he, k1, k2⟩ := r.l2 q hq
    exact ⟨_, List.mem_map.mpr ⟨e, he, rfl⟩, k1, k2⟩
theorem Rep.ph {E : List En} {PL PH : PQ} (r : Rep E PL PH) : (∀ q ∈ pH E, q ∈ PH) ∧ ∀ q ∈ PH, ∃ q' ∈ pH E, q'.2 = q.2 ∧ q.1 ≤ q'.1 := by
  refine ⟨fun q hq => ?_, fun q hq => ?_⟩
  · obtain ⟨e, he, rfl⟩ := List.mem_map.mp hq
    exact r.h1 e he
  · obtain ⟨e, he, k1, k2⟩ := r.h2 q hq
    exact ⟨_, List.mem_map.mpr ⟨e, he, rfl⟩, k1, k2⟩
/-! ### a thing that is locked -/
theorem keepT_lk {H : Hp} {d : Addr} {od : Obj} {kvs : List (L2.Key × V)} {o : HO} (h : H d = some (.frz od (.dK kvs))) : KeepT H (upd H d o) := fun p xs r => by
  have n : p ≠ d := fun e => by
    subst e
    rcases r with r | ⟨ob, r⟩
    · rw [h] at r
      cases r
    · rw [h] at r
      cases r
  rcases r with r | ⟨ob, r⟩
  · exact .inl (by rw [upd_ne n]; exact r)
  · exact .inr ⟨ob, by rw [upd_ne n]; exact r⟩
theorem same_unlock {H H' : Hp} {d : Addr} {o u : HO} (h : H d = some u) (s : Same (upd H d o) H') : Same H (upd H' d u) := fun b x e => by
  by_cases k : b = d
  · subst k
    rw [h] at e
    rw [upd_same, ← e]
  · rw [upd_ne k]
    exact s b x (by rw [upd_ne k]; exact e)
theorem WAt.nt {K : PySem.W.Frag} {H : Hp} {d : Addr} {o o2 : HO} {v : V} {W : List (Str × Int)} (nt : NT o2) (hd : H d = some o2) (h : WAt K H v W) : WAt K (upd H d o) v W := by
  obtain ⟨a, ps, e, ⟨ob, h1, h2⟩, h3, h4⟩ := h
  have n : a ≠ d := fun e => by
    subst e
    rw [h1] at hd
    exact nt.2 _ _ (Option.some.inj hd).symm
  exact ⟨a, ps, e, ⟨ob, by rw [upd_ne n]; exact h1, h2⟩, fun p hp => sqt_keep (keepT_nt nt hd) (h3 p hp), h4⟩
theorem dget_lk {H : Hp} {a : Addr} {od : Obj} {E : List En} {e : En} (nd : (E.map (·.1)).Nodup) (h : H a = some (.frz od (.dK (E.map kvE)))) (he : e ∈ E) : DGet H a (.int (e.1 : Int)) (some (.ref e.2.1)) := .inl ⟨E.map kvE, .inl (e.1 : Int), .inr ⟨od, h⟩, rfl, by rw [valV_E, find_mem nd he]; rfl⟩
end Mt
namespace Mt
open PySem PySem.Spec PyProof.Rows L2
def dPq (x y : Int) : PyData := .tuple [.int x, .int y]
def rowD (R : WR) (k : Nat) : PyData := dPq (at0 (lo R k) 0) (at0 (hi R k) 0)
def spExtr (K : PySem.W.Frag) : Sp := fun vs H Q _ => ∃ (vc vw : V) (n : Nat) (base : Int) (C : Chn) (W : List (Str × Int)), vs = [vc, vw, .int n] ∧ Dp K H vc (dChn base C) ∧ ChnOk base C ∧ WAt K H vw W ∧ (W.map (·.1)).Nodup ∧ W.length ≤ 1000 ∧ n ≤ 10000 ∧
  ∀ (H' : Hp) (L : Addr), Same H H' → H L = none → Dp K H' (.ref L) (.list ((List.range (n + 1)).map (rowD (C.map (wRow W))))) → Q (.ref L) H'
theorem ite_min (i j : Int) : (if j < i then j else i) = min i j := by
  split <;> omega
theorem ite_max (i j : Int) : (if j > i then j else i) = max i j := by
  split <;> omega
theorem noLs_rowD (R : WR) (l : List Nat) : noLs (l.map (rowD R)) = true := noLs_map _ _ fun _ _ => rfl
structure StX (K : PySem.W.Frag) (R : WR) (H H' : Hp) (i : Nat) (dF Lr : Addr) (E : List En) : Prop where
  s : Same H H'
  d : H' dF = some (.dK (E.map kvE))
  e : EAt K H' E
  nd : (E.map (·.1)).Nodup
  pl : POk R (pL E)
  ph : POk R (pH E)
  vl : ∀ m, evL R m (pL E) = at0 (lo R (m + i)) 0
  vh : ∀ m, evH R m (pH E) = at0 (hi R (m + i)) 0
  r : ∃ zs, H' Lr = some (.lst zs) ∧ DpAll K H' zs ((List.range (i + 1)).map (rowD R))
theorem sem_step {R : WR} (ok : ROk R) {E E' : List En} {i : Nat} (pl : POk R (pL E)) (ph : POk R (pH E)) (vl : ∀ m, evL R m (pL E) = at0 (lo R (m + i)) 0) (vh : ∀ m, evH R m (pH E) = at0 (hi R (m + i)) 0)
    (r : Rep E' (stepP R (pL E)) (stepP R (pH E))) : POk R (pL E') ∧ POk R (pH E') ∧ (∀ m, evL R m (pL E') = at0 (lo R (m + (i + 1))) 0) ∧ ∀ m, evH R m (pH E') = at0 (hi R (m + (i + 1))) 0 := by
  have sl := pl.step ok
  have sh := ph.step ok
  obtain ⟨a1, a2⟩ := r.pl
  obtain ⟨b1, b2⟩ := r.ph
  refine ⟨⟨fun h => ?_, fun q hq => sl.to q (a1 q hq)⟩, ⟨fun h => ?_, fun q hq => sh.to q (b1 q hq)⟩, fun m => ?_, fun m => ?_⟩
  · obtain ⟨q, hq⟩ := List.exists_mem_of_ne_nil _ sl.ne
    obtain ⟨q', hq', _⟩ := a2 q hq
    rw [h] at hq'
    exact absurd hq' List.not_mem_nil
  · obtain ⟨q, hq⟩ := List.exists_mem_of_ne_nil _ sh.ne
    obtain ⟨q', hq', _⟩ := b2 q hq
    rw [h] at hq'
    exact absurd hq' List.not_mem_nil
  · rw [evL_dom m sl.ne a1 a2, evL_step ok pl, vl, show m + 1 + i = m + (i + 1) by omega]
  · rw [evH_dom m sh.ne b1 b2, evH_step ok ph, vh, show m + 1 + i = m + (i + 1) by omega]
theorem take_snoc {α : Type} {l : List α} {i : Nat} {x : α} (h : l[i]? = some x) : l.take (i + 1) = l.take i ++ [x] := by
  rw [List.take_add_one, h]
  rfl
theorem stepL_take (C : Chn) (W : List (Str × Int)) {E : List En} {j : Nat} {e : En} (h : E[j]? = some e) : stepP (C.map (wRow W)) (pL (E.take (j + 1))) = stepP (C.map (wRow W)) (pL (E.take j)) ++ (rowOf C e.1).map fun b => (e.2.2.1 + wv W b.2.1, b.2.2) := by
  rw [take_snoc h]
  unfold pL stepP
  rw [List.map_append, List.flatMap_append]
  congr 1
  show (rowR _ e.1).map _ ++ [] = _
  rw [List.append_nil, rowR_map, List.map_map]
  rfl
theorem stepH_take (C : Chn) (W : List (Str × Int)) {E : List En} {j : Nat} {e : En} (h : E[j]? = some e) : stepP (C.map (wRow W)) (pH (E.take (j + 1))) = stepP (C.map (wRow W)) (pH (E.take j)) ++ (rowOf C e.1).map fun b => (e.2.2.2 + wv W b.2.1, b.2.2) := by
  rw [take_snoc h]
  unfold pH stepP
  rw [List.map_append, List.flatMap_append]
  congr 1
  show (rowR _ e.1).map _ ++ [] = _
  rw [List.append_nil, rowR_map, List.map_map]
  rfl
theorem kv_at {E : List En} {j : Nat} {k : L2.Key} {v : V} (h : (E.map kvE)[j]? = some (k, v)) : ∃ e, E[j]? = some e ∧ kV k = .int (e.1 : Int) ∧ v = .ref e.2.1 := by
  rw [List.getElem?_map] at h
  cases e : E[j]? with
  | none =>
    rw [e] at h
    cases h
  | some x =>
    rw [e] at h
    have := Option.some.inj h
    cases this
    exact ⟨x, rfl, rfl, rfl⟩
theorem pl_to {R : WR} {E : List En} (p : POk R (pL E)) : ∀ e ∈ E, e.1 < R.length := fun e he => p.to _ (List.mem_map.mpr ⟨e, he, rfl⟩)
theorem putE_at {K : PySem.W.Frag} {H : Hp} {E : List En} {t : Nat} {a : Addr} {x y : Int} (h : EAt K H E) (ha : SqT K H a [.int x, .int y]) : EAt K H (putE E t a x y) := fun e he => by
  unfold putE at he
  split at he
  · obtain ⟨e', he', rfl⟩ := List.mem_map.mp he
    split
    · exact ha
    · exact h e' he'
  · rcases List.mem_append.mp he with q | q
    · exact h e q
    · rw [List.mem_singleton.mp q]
      exact ha
section
variable {P : Program} {w : World} {K : PySem.W.Frag} {mg : Str → Option Value} {base : Heap}
theorem ok__law_extremes (T : Txt K mg) (D__law_worth : Kept P w K mg base 1 "_law_worth" ["worths", "shown"] (spWorthOf K)) {f : Addr} {fd : FuncData} (F : FnP K "_law_extremes" s__law_extremes f fd) : FnOk P w K mg base CX0 2 f fd ["chain", "worths", "most"] (spExtr K) := by
  refine F.ok sc__law_extremes (fun vs H Q E h => ?_) (fun cdv A outer s H vs Q X h9 h => ?_)
  · obtain ⟨vc, vw, n, b, C, W, rfl, _⟩ := h
    rfl
  · have hr := h9
    obtain ⟨vc, vw, n, b, C, W, rfl, hC, ok, hw, nd, hwl, hn, q⟩ := h
    refine ⟨_, PSs.nox (pss_cons (ps_set (i := 3) sc__law_extremes.nd rfl (Or.inr rfl) (pe_disp (pps_cons pe_int (pe_tup (pa_cons pe_int (pa_cons pe_int pa_nil))) pps_nil) (by rfl) (by rfl) (fun z => by cases z) (by decide)))
      (pss_cons (ps_set (i := 4) sc__law_extremes.nd rfl (Or.inl rfl) (pe_lst (pa_cons (pe_tup (pa_cons pe_int (pa_cons pe_int pa_nil))) pa_nil)))
      (pss_cons (ps_for PassesOwn.never rfl (pi_range1 (by rfl) T.b_range (pa_cons (pv 2) pa_nil)) (pg_name (i := 5) sc__law_extremes.nd rfl (Or.inl rfl)) (pss_cons (ps_set (i := 6) sc__law_extremes.nd rfl (Or.inl rfl) pe_dnewK)
      (pss_cons (ps_lock (ps_for PassesOwn.never rfl (pi_keys (pv 3)) (pg_name (i := 7) sc__law_extremes.nd rfl (Or.inl rfl)) (pss_one (ps_for PassesOwn.never rfl (pi_tup (pe_ix ix_tup (pe_ix ix_tup (pv 0) pe_int (fun _ _ => rfl)) (pv 7) (fun _ _ => rfl))) (pg_tup rfl (pgs_cons (pg_name (i := 8) sc__law_extremes.nd rfl (Or.inl rfl)) (pgs_cons (pg_name (i := 9) sc__law_extremes.nd rfl (Or.inl rfl)) (pgs_cons (pg_name (i := 10) sc__law_extremes.nd rfl (Or.inl rfl)) pgs_nil)))) (pss_cons (ps_set (i := 11) sc__law_extremes.nd rfl (Or.inl rfl) (pe_d D__law_worth (hr.mono (by decide)) (by rfl) (pa_cons (pv 1) (pa_cons (pv 9) pa_nil))))
      (pss_cons (ps_set (i := 12) sc__law_extremes.nd rfl (Or.inl rfl) (pe_op op_add (pe_ix (ixT (K := K) rfl) (pe_dget (hu_of hr) (pv 3) (pv 7) (fun _ _ => rfl)) pe_int (fun _ _ => rfl)) (pv 11)))
      (pss_cons (ps_set (i := 13) sc__law_extremes.nd rfl (Or.inl rfl) (pe_op op_add (pe_ix (ixT (K := K) rfl) (pe_dget (hu_of hr) (pv 3) (pv 7) (fun _ _ => rfl)) pe_int (fun _ _ => rfl)) (pv 11)))
      (Evl.pss_cut (ps_if (pt_cmp (pc_din (hu_of hr) (pv 10) (pv 6))) (pss_cons (ps_set (i := 12) sc__law_extremes.nd rfl (Or.inl rfl) (pe_callB (call_min2 rfl) (by rfl) T.b_min (by decide +kernel) (pa_cons (pv 12) (pa_cons (pe_ix (ixT (K := K) rfl) (pe_dget (hu_of hr) (pv 6) (pv 10) (fun _ _ => rfl)) pe_int (fun _ _ => rfl)) pa_nil))))
      (pss_one (ps_set (i := 13) sc__law_extremes.nd rfl (Or.inl rfl) (pe_callB (call_max2 rfl) (by rfl) T.b_max (by decide +kernel) (pa_cons (pv 13) (pa_cons (pe_ix (ixT (K := K) rfl) (pe_dget (hu_of hr) (pv 6) (pv 10) (fun _ _ => rfl)) pe_int (fun _ _ => rfl)) pa_nil)))))) pss_nil)
      (pss_one (ps_asg (pe_tup (pa_cons (pv 12) (pa_cons (pv 13) pa_nil))) (pg_sub (pv 6) (pv 10) (set_dict (hu_of hr)))))))))))))
      (pss_cons (ps_set (i := 3) sc__law_extremes.nd rfl (Or.inr rfl) (pv 6))
      (pss_cons (ps_set (i := 12) sc__law_extremes.nd rfl (Or.inl rfl) (pe_callB (cr_min rfl) (by rfl) T.b_min (by decide +kernel) (pa_cons (pe_lock (pe_lc (own := [("here", 7)]) (g := (gName 7)) (tt := tYes) rfl sc__law_extremes.nd (pi_keys (pv 3)) (blkOk_by (N := N__law_extremes) (sc := defScope s__law_extremes) (by decide +kernel)) (fun _ _ _ _ _ => (pg_name (i := 7) sc__law_extremes.nd rfl (Or.inl rfl))) (fun _ _ _ _ _ => pts_nil) (fun _ _ _ _ _ => (pe_ix (ixT (K := K) rfl) (pe_dget (hu_of hr) (pv 3) (pv 7) (fun _ _ => rfl)) pe_int (fun _ _ => rfl))))) pa_nil)))
      (pss_cons (ps_set (i := 13) sc__law_extremes.nd rfl (Or.inl rfl) (pe_callB (cr_max rfl) (by rfl) T.b_max (by decide +kernel) (pa_cons (pe_lock (pe_lc (own := [("here", 7)]) (g := (gName 7)) (tt := tYes) rfl sc__law_extremes.nd (pi_keys (pv 3)) (blkOk_by (N := N__law_extremes) (sc := defScope s__law_extremes) (by decide +kernel)) (fun _ _ _ _ _ => (pg_name (i := 7) sc__law_extremes.nd rfl (Or.inl rfl))) (fun _ _ _ _ _ => pts_nil) (fun _ _ _ _ _ => (pe_ix (ixT (K := K) rfl) (pe_dget (hu_of hr) (pv 3) (pv 7) (fun _ _ => rfl)) pe_int (fun _ _ => rfl))))) pa_nil)))
      (pss_one (ps_expr (pe_bm PySem.F.plainAttrs_list PySem.F.slot_list_append PySem.F.type_list_append mt_append (pv 4) (pa_cons (pe_tup (pa_cons (pv 12) (pa_cons (pv 13) pa_nil))) pa_nil))))))))))
      (pss_one (ps_ret (pv 4)))))), ?_⟩
    obtain ⟨pc, pq, xs, rfl, hpc, hpq, hA⟩ := chn_at hC
    have xl := dpA_len hA
    rw [List.length_map] at xl
    have okR := ROk.of ok W
    refine fun d0 hd0 => ⟨by show 2 ≤ sizeLine; decide, fun p0 hp0 => ⟨?_, [(.inl 0, .ref p0)], rfl, (by show 1 ≤ 15; decide), ?_⟩⟩
    · exact same_new hp0 _ _ upd_same
    have hd0' : (upd (upd H d0 (.dK [])) p0 (.tup [.int 0, .int 0])) d0 = some (.dK []) := same_new hp0 _ _ upd_same
    have s1 : Same H (upd (upd (upd H d0 (.dK [])) p0 (.tup [.int 0, .int 0])) d0 (.dK (mergeK [] [(.inl 0, .ref p0)]))) := same_mut ((same_new hd0).trans (same_new hp0)) hd0
    have hp1 : SqT K (upd (upd (upd H d0 (.dK [])) p0 (.tup [.int 0, .int 0])) d0 (.dK (mergeK [] [(.inl 0, .ref p0)]))) p0 [.int 0, .int 0] := sqt_keep (keepT_nt (nt_dk _) hd0') (SqT.of upd_same)
    have hd1 := upd_same (H := upd (upd H d0 (.dK [])) p0 (.tup [.int 0, .int 0])) (a := d0) (o := .dK (mergeK [] [(.inl 0, .ref p0)]))
    generalize upd (upd (upd H d0 (.dK [])) p0 (.tup [.int 0, .int 0])) d0 (.dK (mergeK [] [(.inl 0, .ref p0)])) = H1 at s1 hp1 hd1
    refine ⟨by show 2 ≤ sizeLine; decide, fun p2 hp2 => ⟨by show 1 ≤ sizeLine; decide, fun Lr hLr => ?_⟩⟩
    have s2 := same_new (o := .tup [.int 0, .int 0]) hp2
    have s3 := same_new (o := .lst [.ref p2]) hLr
    have hp3 := s3 _ _ (upd_same (H := H1) (a := p2) (o := .tup [.int 0, .int 0]))
    have hLr3 := upd_same (H := upd H1 p2 (.tup [.int 0, .int 0])) (a := Lr) (o := .lst [.ref p2])
    have s13 := s2.trans s3
    have s4 := s1.trans s13
    have hLr0 : H Lr = none := by
      cases e : H Lr with
      | none => rfl
      | some o =>
        rw [(s1.trans s2) _ _ e] at hLr
        cases hLr
    generalize upd (upd H1 p2 (.tup [.int 0, .int 0])) Lr (.lst [.ref p2]) = H3 at s13 s4 hp3 hLr3
    generalize hR : C.map (wRow W) = R at q okR
    refine ⟨_, rfl, _, rfl, by omega, by omega, for_range (lo := 0) (n := n) (fun i σ H' => ∃ (dF : Addr) (E : List En) (y5 y6 y7 y8 y9 y10 y11 y12 y13 : Option V), σ = [some (.ref pc), some vw, some (.int n), some (.ref dF), some (.ref Lr), y5, y6, y7, y8, y9, y10, y11, y12, y13] ∧ StX K R H H' i dF Lr E) ⟨d0, [(0, p0, 0, 0)], _, _, _, _, _, _, _, _, _, rfl, s4, s13 _ _ hd1, fun e he => ?_, by simp, ⟨by simp [pL], fun q hq => ?_⟩, ⟨by simp [pH], fun q hq => ?_⟩, fun m => ?_, fun m => ?_, [.ref p2], hLr3, ?_⟩ ?_ ?_⟩
    · rw [List.mem_singleton.mp he]
      exact same_t s13 hp1
    · rw [List.mem_singleton.mp hq]
      exact okR.pos
    · rw [List.mem_singleton.mp hq]
      exact okR.pos
    · exact pn_L okR 0 m
    · exact pn_H okR 0 m
    · refine .cons ?_ .nil
      show Dp K H3 (.ref p2) (dPq (at0 (R.map fun _ => (0 : Int)) 0) (at0 (R.map fun _ => (0 : Int)) 0))
      rw [zero_at]
      exact .tup (SqT.of hp3) (.cons (.int _) (.cons (.int _) .nil))
    · rintro i σ H4 hi ⟨dF, E, y5, y6, y7, y8, y9, y10, y11, y12, y13, rfl, st⟩
      obtain ⟨zs, hLr4, hzs⟩ := st.r
      refine fun dN hdN => ⟨dF, .dK (E.map kvE), ?_, True.intro, fun od => ⟨_, rfl, dF, od, rfl, .inl ⟨E.map kvE, upd_same, for_it walk_keys (fun j σ H' => ∃ (E' : List En) (y7 y8 y9 y10 y11 y12 y13 : Option V), σ = [some (.ref pc), some vw, some (.int n), some (.ref dF), some (.ref Lr), some (.int (0 + (i : Int))), some (.ref dN), y7, y8, y9, y10, y11, y12, y13] ∧ Same (upd H4 dF (.frz od (.dK (E.map kvE)))) H' ∧ H' dN = some (.dK (E'.map kvE)) ∧ EAt K H' E' ∧ Rep E' (stepP R (pL (E.take j))) (stepP R (pH (E.take j)))) ⟨[], _, _, _, _, _, _, _, rfl, same_upd (same_new hdN), ?_, fun _ h => absurd h List.not_mem_nil, Rep.nil⟩ (fun j σ H' _ ⟨_, _, _, _, _, _, _, _, _, s, _⟩ => s _ _ upd_same) ?_ ?_⟩⟩⟩
      · exact same_new hdN _ _ st.d
      · rw [upd_ne (ne_of_none st.d hdN).symm, upd_same]
        rfl
      · rintro j x σ H5 H5' hj ⟨E', y7, y8, y9, y10, y11, y12, y13, rfl, s5, hdN5, he5, rp⟩ ⟨rfl, key, v, hkv, rfl⟩
        obtain ⟨e, he, ek, rfl⟩ := kv_at hkv
        rw [ek]
        have nNF : dN ≠ dF := (ne_of_none st.d hdN).symm
        have hdNL : (upd H4 dF (.frz od (.dK (E.map kvE)))) dN = none := by
          rw [upd_ne nNF]
          exact hdN
        have kHL : KeepT H4 (upd H4 dF (.frz od (.dK (E.map kvE)))) := keepT_nt (nt_dk _) st.d
        have kH : KeepT H (upd H4 dF (.frz od (.dK (E.map kvE)))) := (KeepT.of_same st.s).trans kHL
        have hwL : WAt K (upd H4 dF (.frz od (.dK (E.map kvE)))) vw W := (hw.same st.s).nt (nt_dk _) st.d
        have heL : EAt K (upd H4 dF (.frz od (.dK (E.map kvE)))) E := st.e.keep kHL
        have hdFL : (upd H4 dF (.frz od (.dK (E.map kvE)))) dF = some (.frz od (.dK (E.map kvE))) := upd_same
        generalize upd H4 dF (.frz od (.dK (E.map kvE))) = HL at s5 hdNL kHL kH hwL heL hdFL
        have hem := List.mem_of_getElem? he
        have es := pl_to st.pl e hem
        have es' : e.1 < C.length := by
          rw [← hR, List.length_map] at es
          exact es
        obtain ⟨xr, hxr, hdr⟩ := dpA_get hA (rowOf_at es')
        obtain ⟨pr, rs, rfl, hpr, hrs⟩ := dp_tup hdr
        have rl := dpA_len hrs
        rw [List.length_map] at rl
        have okr := ok.row _ (List.mem_of_getElem? (rowOf_at es'))
        have k5 := kH.trans (KeepT.of_same s5)
        have tL := stepL_take C W he
        have tH := stepH_take C W he
        rw [hR] at tL tH
        refine ⟨_, rfl, pc, _, _, _, rfl, rfl, sqt_keep k5 hpc, atI_nat (j := 2) rfl, _, rfl, pq, _, _, _, rfl, rfl, sqt_keep k5 hpq, atI_nat hxr, pr, rfl, ⟨_, sqt_keep k5 hpr⟩, for_tup (K := K) (a := pr) (xs := rs) (fun k σ H' => ∃ (E' : List En) (y8 y9 y10 y11 y12 y13 : Option V), σ = [some (.ref pc), some vw, some (.int n), some (.ref dF), some (.ref Lr), some (.int (0 + (i : Int))), some (.ref dN), some (.int (e.1 : Int)), y8, y9, y10, y11, y12, y13] ∧ Same HL H' ∧ H' dN = some (.dK (E'.map kvE)) ∧ EAt K H' E' ∧ Rep E' (stepP R (pL (E.take j)) ++ ((rowOf C e.1).take k).map fun b => (e.2.2.1 + wv W b.2.1, b.2.2)) (stepP R (pH (E.take j)) ++ ((rowOf C e.1).take k).map fun b => (e.2.2.2 + wv W b.2.1, b.2.2))) ⟨E', _, _, _, _, _, _, rfl, s5, hdN5, he5, by simpa using rp⟩ (fun k σ H' _ ⟨_, _, _, _, _, _, _, _, s, _⟩ => sqt_keep (kH.trans (KeepT.of_same s)) hpr) ?_ ?_⟩
        · rintro k y σ H6 hk ⟨E', y8, y9, y10, y11, y12, y13, rfl, s6, hdN6, he6, rp⟩
          obtain ⟨br, hbr, hy⟩ := dpA_mem hrs hk
          obtain ⟨pb, x0, x1, rfl, hpb, hb0, hb1⟩ := br_at hy
          have okb := okr.to br (List.mem_of_getElem? hbr)
          have k6 := kH.trans (KeepT.of_same s6)
          refine ⟨_, _, rfl, sqt_keep k6 hpb, rfl, _, _, rfl, _, _, rfl, _, _, rfl, rfl, ?_⟩
          refine ⟨_, rfl, _, rfl, vw, x1, W, br.2.1, rfl, hwL.same s6, nd, hwl, dp_keep k6 _ _ (dSh_noL _) hb1, by omega, fun H7 s7 => ?_⟩
          have s67 := s6.trans s7
          have hdN7 := s7 _ _ hdN6
          have hpe := same_t s67 (heL e hem)
          refine ⟨_, rfl, _, rfl, dF, _, rfl, dget_lk st.nd (s67 _ _ hdFL) hem, _, _, _, _, rfl, rfl, hpe, atI_nat (j := 0) rfl, _, rfl, _, _, rfl, rfl, ?_⟩
          refine ⟨_, rfl, _, rfl, dF, _, rfl, dget_lk st.nd (s67 _ _ hdFL) hem, _, _, _, _, rfl, rfl, hpe, atI_nat (j := 1) rfl, _, rfl, _, _, rfl, rfl, ?_⟩
          have dg : DGet H7 dN (.int (br.2.2 : Int)) ((findE E' br.2.2).map fun e => .ref e.2.1) := by
            rw [← valV_E]
            exact DGet.k (k := .inl (br.2.2 : Int)) hdN7
          refine ⟨fun σ' H' => σ' = [some (.ref pc), some vw, some (.int n), some (.ref dF), some (.ref Lr), some (.int (0 + (i : Int))), some (.ref dN), some (.int (e.1 : Int)), some x0, some x1, some (.int (br.2.2 : Int)), some (.int (wv W br.2.1)), some (.int (Mt.mg E' br.2.2 (e.2.2.1 + wv W br.2.1) (e.2.2.2 + wv W br.2.1)).1), some (.int (Mt.mg E' br.2.2 (e.2.2.1 + wv W br.2.1) (e.2.2.2 + wv W br.2.1)).2)] ∧ H' = H7, ?_, ?_⟩
          · cases hf : findE E' br.2.2 with
            | none =>
              have e1 : Mt.mg E' br.2.2 (e.2.2.1 + wv W br.2.1) (e.2.2.2 + wv W br.2.1) = (e.2.2.1 + wv W br.2.1, e.2.2.2 + wv W br.2.1) := by
                unfold Mt.mg
                rw [hf]
              rw [hf] at dg
              rw [e1]
              refine ⟨_, rfl, _, rfl, dN, none, rfl, dg, _, rfl, ?_⟩
              exact ⟨rfl, rfl⟩
            | some e0 =>
              have e1 : Mt.mg E' br.2.2 (e.2.2.1 + wv W br.2.1) (e.2.2.2 + wv W br.2.1) = (min (e.2.2.1 + wv W br.2.1) e0.2.2.1, max (e.2.2.2 + wv W br.2.1) e0.2.2.2) := by
                unfold Mt.mg
                rw [hf]
              rw [hf] at dg
              rw [e1]
              have hp0 := same_t s7 (he6 e0 (find_some hf).1)
              refine ⟨_, rfl, _, rfl, dN, _, rfl, dg, _, rfl, ?_⟩
              refine ⟨_, rfl, _, rfl, _, rfl, dN, _, rfl, dg, _, _, _, _, rfl, rfl, hp0, atI_nat (j := 0) rfl, _, _, rfl, ?_⟩
              refine ⟨_, rfl, _, rfl, _, rfl, dN, _, rfl, dg, _, _, _, _, rfl, rfl, hp0, atI_nat (j := 1) rfl, _, _, rfl, ?_⟩
              rw [ite_min, ite_max]
              exact ⟨rfl, rfl⟩
          · rintro σ' H' ⟨rfl, rfl⟩
            refine ⟨_, rfl, _, rfl, by show 2 ≤ sizeLine; decide, fun pt hpt => ⟨_, rfl, _, rfl, dN, _, rfl, DPut.k (k := .inl (br.2.2 : Int)) (same_new hpt _ _ hdN7) ?_, ?_⟩⟩
            · rw [List.length_map]
              have fw := rp.few (n := R.length) fun q hq => ?_
              · exact line6 (by have := okR.few; omega)
              · rcases List.mem_append.mp hq with h | h
                · obtain ⟨q0, hq0, b0, hb0, rfl⟩ := mem_step.mp h
                  obtain ⟨e', he', rfl⟩ := List.mem_map.mp hq0
                  exact row_to okR (pl_to st.pl e' (List.mem_of_mem_take he')) b0 hb0
                · obtain ⟨b0, hb0, rfl⟩ := List.mem_map.mp h
                  have := (okr.to b0 (List.mem_of_mem_take hb0)).1
                  rw [← hR, List.length_map]
                  exact this
            · have hdN8 := same_new (o := .tup [V.int (Mt.mg E' br.2.2 (e.2.2.1 + wv W br.2.1) (e.2.2.2 + wv W br.2.1)).1, V.int (Mt.mg E' br.2.2 (e.2.2.1 + wv W br.2.1) (e.2.2.2 + wv W br.2.1)).2]) hpt _ _ hdN7
              have s8 := s7.trans (same_new (o := .tup [V.int (Mt.mg E' br.2.2 (e.2.2.1 + wv W br.2.1) (e.2.2.2 + wv W br.2.1)).1, V.int (Mt.mg E' br.2.2 (e.2.2.1 + wv W br.2.1) (e.2.2.2 + wv W br.2.1)).2]) hpt)
              refine ⟨putE E' br.2.2 pt (Mt.mg E' br.2.2 (e.2.2.1 + wv W br.2.1) (e.2.2.2 + wv W br.2.1)).1 (Mt.mg E' br.2.2 (e.2.2.1 + wv W br.2.1) (e.2.2.2 + wv W br.2.1)).2, _, _, _, _, _, _, rfl, same_mut (s6.trans s8) hdNL, ?_, ?_, ?_⟩
              · rw [upd_same, ← put_kv]
              · exact putE_at ((he6.same s8).keep (keepT_nt (nt_dk _) hdN8)) (sqt_keep (keepT_nt (nt_dk _) hdN8) (SqT.of upd_same))
              · rw [take_snoc hbr, List.map_append, List.map_append, ← List.append_assoc, ← List.append_assoc]
                exact rep_put rp _ _ _ _
        · rintro σ H6 ⟨E', y8, y9, y10, y11, y12, y13, rfl, s6, hdN6, he6, rp⟩
          rw [rl, List.take_length, ← tL, ← tH] at rp
          exact ⟨E', _, _, _, _, _, _, _, rfl, s6, hdN6, he6, rp⟩
      · rintro σ H5 ⟨E', y7, y8, y9, y10, y11, y12, y13, rfl, s5, hdN5, he5, rp⟩
        rw [List.length_map, List.take_length] at rp
        have nNF : dN ≠ dF := (ne_of_none st.d hdN).symm
        have hdF5 := s5 _ _ (upd_same (H := H4) (a := dF) (o := .frz od (.dK (E.map kvE))))
        obtain ⟨pl', ph', vl', vh'⟩ := sem_step okR st.pl st.ph st.vl st.vh rp
        have s45 := same_unlock st.d s5
        have he6 := he5.keep (keepT_lk (o := .dK (E.map kvE)) hdF5)
        have hdN6 : (upd H5 dF (.dK (E.map kvE))) dN = some (.dK (E'.map kvE)) := by
          rw [upd_ne nNF]
          exact hdN5
        refine ⟨hdF5, ?_⟩
        generalize upd H5 dF (.dK (E.map kvE)) = H6 at s45 he6 hdN6
        have ne' : E' ≠ [] := fun h => pl'.ne (by rw [h]; rfl)
        have few' : E'.length ≤ 20 := Nat.le_trans (rp.few (st.pl.step okR).to) okR.few
        have mnE : mn (E'.map fun e => e.2.2.1) = at0 (lo R (i + 1)) 0 := by
          have := vl' 0
          rw [evL_zero, Nat.zero_add] at this
          unfold pL at this
          rw [List.map_map] at this
          exact this
        have mxE : mx (E'.map fun e => e.2.2.2) = at0 (Mt.hi R (i + 1)) 0 := by
          have := vh' 0
          rw [evH_zero, Nat.zero_add] at this
          unfold pH at this
          rw [List.map_map] at this
          exact this
        refine ⟨_, rfl, dN, .dK (E'.map kvE), hdN6, True.intro, fun ob => ⟨_, rfl, dN, ob, rfl, .inl ⟨E'.map kvE, upd_same, fun L1 hL1 => lc_it walk_keys (fun j H' => Same (upd H6 dN (.frz ob (.dK (E'.map kvE)))) H' ∧ H' L1 = some (.lst ((E'.take j).map fun e => V.int e.2.2.1))) ⟨same_new hL1, upd_same⟩ (fun j H' _ e => e.1 _ _ upd_same) ?_ ?_⟩⟩⟩
        · rintro j x H7 H7' hj ⟨s7, hL7⟩ ⟨rfl, key, v, hkv, rfl⟩
          obtain ⟨e, he, ek, rfl⟩ := kv_at hkv
          rw [ek]
          have hem := List.mem_of_getElem? he
          have jl := (List.getElem?_eq_some_iff.mp he).1
          refine ⟨rfl, _, rfl, _, rfl, dN, _, rfl, dget_lk rp.nd (s7 _ _ upd_same) hem, _, _, _, _, rfl, rfl, same_t s7 (sqt_keep (keepT_nt (nt_dk _) hdN6) (he6 e hem)), atI_nat (j := 0) rfl, _, hL7, ?_, same_mut s7 hL1, ?_⟩
          · rw [List.length_map, List.length_take]
            exact line6 (by omega)
          · rw [upd_same, take_map_succ (f := fun e : En => V.int e.2.2.1) he]
        rintro H7 ⟨s7, hL7⟩
        rw [List.length_map, List.take_length] at hL7
        have nL1 : L1 ≠ dN := fun e => by
          rw [e, upd_same] at hL1
          cases hL1
        refine ⟨s7 _ _ upd_same, ?_⟩
        have s68 := same_unlock hdN6 s7
        have hL18 : (upd H7 dN (.dK (E'.map kvE))) L1 = some (.lst (E'.map fun e => V.int e.2.2.1)) := by
          rw [upd_ne nL1]
          exact hL7
        generalize upd H7 dN (.dK (E'.map kvE)) = H8 at s68 hL18
        refine ⟨L1, E'.map fun e => e.2.2.1, rfl, SqL.of (by rw [List.map_map]; exact hL18), by rw [List.length_map]; exact List.length_pos_iff.mpr ne', fun m hm hmin => ?_⟩
        have hdN8 := s68 _ _ hdN6
        have he8 := he6.same s68
        refine ⟨dN, .dK (E'.map kvE), hdN8, True.intro, fun ob => ⟨_, rfl, dN, ob, rfl, .inl ⟨E'.map kvE, upd_same, fun L2 hL2 => lc_it walk_keys (fun j H' => Same (upd H8 dN (.frz ob (.dK (E'.map kvE)))) H' ∧ H' L2 = some (.lst ((E'.take j).map fun e => V.int e.2.2.2))) ⟨same_new hL2, upd_same⟩ (fun j H' _ e => e.1 _ _ upd_same) ?_ ?_⟩⟩⟩
        · rintro j x H7 H7' hj ⟨s7, hL7⟩ ⟨rfl, key, v, hkv, rfl⟩
          obtain ⟨e, he, ek, rfl⟩ := kv_at hkv
          rw [ek]
          have hem := List.mem_of_getElem? he
          have jl := (List.getElem?_eq_some_iff.mp he).1
          refine ⟨rfl, _, rfl, _, rfl, dN, _, rfl, dget_lk rp.nd (s7 _ _ upd_same) hem, _, _, _, _, rfl, rfl, same_t s7 (sqt_keep (keepT_nt (nt_dk _) hdN8) (he8 e hem)), atI_nat (j := 1) rfl, _, hL7, ?_, same_mut s7 hL2, ?_⟩
          · rw [List.length_map, List.length_take]
            exact line6 (by omega)
          · rw [upd_same, take_map_succ (f := fun e : En => V.int e.2.2.2) he]
        rintro H7 ⟨s7, hL7⟩
        rw [List.length_map, List.take_length] at hL7
        have nL2 : L2 ≠ dN := fun e => by
          rw [e, upd_same] at hL2
          cases hL2
        refine ⟨s7 _ _ upd_same, ?_⟩
        have s89 := same_unlock hdN8 s7
        have hL28 : (upd H7 dN (.dK (E'.map kvE))) L2 = some (.lst (E'.map fun e => V.int e.2.2.2)) := by
          rw [upd_ne nL2]
          exact hL7
        generalize upd H7 dN (.dK (E'.map kvE)) = H9 at s89 hL28
        refine ⟨L2, E'.map fun e => e.2.2.2, rfl, SqL.of (by rw [List.map_map]; exact hL28), by rw [List.length_map]; exact List.length_pos_iff.mpr ne', fun m' hm' hmax => ?_⟩
        rw [← mn_eq hm hmin, ← mx_eq hm' hmax, mnE, mxE]
        have s49 := s45.trans (s68.trans s89)
        have hLr9 := s49 _ _ hLr4
        have zl := dpA_len hzs
        rw [List.length_map, List.length_range] at zl
        refine ⟨_, rfl, .inl ⟨rfl, _, SqL.of hLr9⟩, _, rfl, _, rfl, by show 2 ≤ sizeLine; decide, fun pt hpt => ?_⟩
        have sp := same_new (o := .tup [.int (at0 (lo R (i + 1)) 0), .int (at0 (Mt.hi R (i + 1)) 0)]) hpt
        have hpt10 := upd_same (H := H9) (a := pt) (o := .tup [.int (at0 (lo R (i + 1)) 0), .int (at0 (Mt.hi R (i + 1)) 0)])
        generalize upd H9 pt (.tup [.int (at0 (lo R (i + 1)) 0), .int (at0 (Mt.hi R (i + 1)) 0)]) = H10 at sp hpt10
        have hLr10 := sp _ _ hLr9
        have kL := keepT_nt (o := .lst (zs ++ [.ref pt])) (nt_lst _) hLr10
        have s410 := s49.trans sp
        have nNL : dN ≠ Lr := (ne_of_none hLr4 hdN).symm
        refine ⟨Lr, zs, _, rfl, rfl, hLr10, line6 (by omega), dN, E', _, _, _, _, _, _, _, _, _, rfl, same_mut (st.s.trans s410) hLr0, ?_, ((he8.same s89).same sp).keep kL, rp.nd, pl', ph', vl', vh', zs ++ [.ref pt], upd_same, ?_⟩
        · rw [upd_ne nNL]
          exact sp _ _ (s89 _ _ hdN8)
        · rw [List.range_succ, List.map_append]
          exact dpA_snoc (dpA_keep kL _ _ (noLs_rowD R _) (dpA_same s410 _ _ hzs)) (.tup (sqt_keep kL (SqT.of hpt10)) (.cons (.int _) (.cons (.int _) .nil)))
    · rintro σ H4 ⟨dF, E, y5, y6, y7, y8, y9, y10, y11, y12, y13, rfl, st⟩
      obtain ⟨zs, hLr4, hzs⟩ := st.r
      exact ⟨_, rfl, q _ _ st.s hLr0 (.lst (SqL.of hLr4) hzs)⟩
end
end Mt
namespace Mt
open PySem PySem.Spec PyProof.Rows L2
theorem dPq_sh (x y : Int) : SeqAt.shaped (dPq x y) = true := rfl
theorem eqv_pq (x y : Int) : PyData.eqv (dPq x y) (dPq x y) = true := SeqAt.eqv_refl _ rfl
def spTold (K : PySem.W.Frag) : Sp := fun vs H Q _ => ∃ (vc vw vd : V) (n : Nat) (base : Int) (C : Chn) (W : List (Str × Int)), vs = [vc, vw, .int n, vd] ∧ Dp K H vc (dChn base C) ∧ ChnOk base C ∧ WAt K H vw W ∧ (W.map (·.1)).Nodup ∧ W.length ≤ 1000 ∧ n ≤ 10000 ∧
  Dp K H vd (rowD (C.map (wRow W)) n) ∧ ∀ H', Same H H' → Q (.bl true) H'
def spWalked (K : PySem.W.Frag) : Sp := fun vs H Q _ => ∃ (S D : Addr) (vc vw vd : V) (n : Nat) (base : Int) (C : Chn) (W : List (Str × Int)), vs = [.ref D, vc, vw, .int n, vd] ∧ DrawAt S D H ∧ Dp K H vc (dChn base C) ∧ ChnOk base C ∧ WAt K H vw W ∧ (W.map (·.1)).Nodup ∧ W.length ≤ 1000 ∧ n ≤ 1000 ∧
  Dp K H vd (rowD (C.map (wRow W)) n) ∧ ∀ H', Go S D H H' → Q (.bl true) H'
theorem pq_at {K : PySem.W.Frag} {H : Hp} {v : V} {x y : Int} (h : Dp K H v (dPq x y)) : ∃ p, v = .ref p ∧ SqT K H p [.int x, .int y] := by
  obtain ⟨p, xs, rfl, h1, hA⟩ := dp_tup h
  obtain ⟨x0, r0, rfl, h0, hA⟩ := dpA_cons hA
  obtain ⟨x1, r1, rfl, h2, hA⟩ := dpA_cons hA
  cases dpA_nil hA
  rw [dp_int h0, dp_int h2] at h1
  exact ⟨p, rfl, h1⟩
section
variable {P : Program} {w : World} {K : PySem.W.Frag} {mg : Str → Option Value} {base : Heap}
theorem ok__law_told (T : Txt K mg) (D_greatest : Kept P w K mg base 3 "greatest" ["chain", "worths", "n"] (spGreat K)) (D__law_is_ints : Kept P w K mg base 2 "_law_is_ints" ["row"] (spIsInts K)) {f : Addr} {fd : FuncData} (F : FnP K "_law_told" s__law_told f fd) : FnOk P w K mg base CX0 4 f fd ["chain", "worths", "n", "due"] (spTold K) := by
  refine F.ok sc__law_told (fun vs H Q E h => ?_) (fun cdv A outer s H vs Q E hr h => ?_)
  · obtain ⟨vc, vw, vd, n, b, C, W, rfl, _⟩ := h
    rfl
  · obtain ⟨vc, vw, vd, n, b, C, W, rfl, hC, ok, hw, nd, hwl, hn, hd, q⟩ := h
    refine ⟨_, PSs.nox (pss_cons (ps_set (i := 4) sc__law_told.nd rfl (Or.inl rfl) (pe_d D_greatest (hr.mono (by decide)) (by rfl) (pa_cons (pv 0) (pa_cons (pv 1) (pa_cons (pv 2) pa_nil)))))
      (pss_one (ps_ret (pe_and (pe_d D__law_is_ints (hr.mono (by decide)) (by rfl) (pa_cons (pv 4) pa_nil)) (pe_and (pe_cmpR op_eq (pe_callB call_len (by rfl) T.b_len (by decide +kernel) (pa_cons (pv 4) pa_nil)) pe_int (nomark _)) (pe_one (pe_cmpR (op_eqD (hr.units)) (pv 4) (pv 3) (nomark _)))))))), ?_⟩
    refine ⟨_, rfl, _, rfl, _, rfl, vc, vw, n, b, C, W, rfl, hC, ok, hw, nd, hwl, hn, fun H1 p s1 hp => ?_⟩
    refine ⟨_, rfl, p, [_, _], rfl, hp, (by show 2 ≤ 100; decide), fun H2 s2 => ⟨true, rfl, _, rfl, _, _, rfl, .inr ⟨_, SqT.of (s2 _ _ hp), rfl⟩, rfl, _, rfl, ite2 (fun _ => ?_) (fun h => absurd rfl h)⟩⟩
    refine ⟨_, rfl, _, rfl, _, _, .tup (SqT.of (s2 _ _ hp)) (.cons (.int _) (.cons (.int _) .nil)), dp_same (s1.trans s2) _ _ hd, dPq_sh _ _, dPq_sh _ _, ?_⟩
    have e : PyData.eqv (.tuple [.int (at0 (lo (C.map (wRow W)) n) 0), .int (at0 (hi (C.map (wRow W)) n) 0)]) (rowD (C.map (wRow W)) n) = true := eqv_pq _ _
    rw [e]
    exact q _ (s1.trans s2)
theorem ok__law_walked (T : Txt K mg) (D_walk : Kept P w K mg base 2 "walk" ["chain", "tape", "ticks"] (spWalk K)) (D__law_draw : Kept P w K mg base 1 "_law_draw" ["d", "many"] spDraw) (D__law_worth : Kept P w K mg base 1 "_law_worth" ["worths", "shown"] (spWorthOf K)) {f : Addr} {fd : FuncData} (F : FnP K "_law_walked" s__law_walked f fd) : FnOk P w K mg base CX0 3 f fd ["d", "chain", "worths", "n", "due"] (spWalked K) := by
  refine F.ok sc__law_walked (fun vs H Q E h => ?_) (fun cdv A outer s H vs Q E hr h => ?_)
  · obtain ⟨S, D, vc, vw, vd, n, b, C, W, rfl, _⟩ := h
    rfl
  · obtain ⟨S, D, vc, vw, vd, n, b, C, W, rfl, d, hC, ok, hw, nd, hwl, hn, hd, q⟩ := h
    refine ⟨_, PSs.nox (pss_cons (ps_set (i := 5) sc__law_walked.nd rfl (Or.inl rfl) (pe_callTy (tupOfT (K := K) rfl) (by rfl) T.b_tuple (by decide +kernel) (pa_cons (pe_lc (own := [("k", 6)]) (g := (gName 6)) (tt := tYes) rfl sc__law_walked.nd (pi_range1 (by rfl) T.b_range (pa_cons (pe_op op_mul pe_int (pv 3)) pa_nil)) (blkOk_by (N := N__law_walked) (sc := defScope s__law_walked) (by decide +kernel)) (fun _ _ _ _ _ => (pg_name (i := 6) sc__law_walked.nd rfl (Or.inl rfl))) (fun _ _ _ _ _ => pts_nil) (fun _ _ _ _ _ => (pe_d D__law_draw (hr.mono (by decide)) (by rfl) (pa_cons (pv 0) (pa_cons (pe_ix (ixT (K := K) rfl) (pv 1) pe_int (fun _ _ => rfl)) pa_nil))))) pa_nil)))
      (pss_cons (ps_set (i := 7) sc__law_walked.nd rfl (Or.inl rfl) (pe_d D_walk (hr.mono (by decide)) (by rfl) (pa_cons (pv 1) (pa_cons (pv 5) (pa_cons (pv 3) pa_nil)))))
      (pss_cons (ps_if (PW.pt (pw_or (pt_not (pt_val (pe_callB call_isi (by rfl) T.b_isinstance (by decide +kernel) (pa_cons (pv 7) (pa_cons (pe_bltn (v := .ty "tuple") (u := .type "tuple") (by rfl) T.b_tuple (by decide +kernel) rfl) pa_nil))))) (pw_or (pt_cmpR op_ne (pe_callB call_len (by rfl) T.b_len (by decide +kernel) (pa_cons (pv 7) pa_nil)) pe_int (nomark _)) (pw_or (pt_not (pt_val (pe_callB call_isi (by rfl) T.b_isinstance (by decide +kernel) (pa_cons (pe_ix ix_tup (pv 7) pe_int (fun _ _ => rfl)) (pa_cons (pe_bltn (v := .ty "tuple") (u := .type "tuple") (by rfl) T.b_tuple (by decide +kernel) rfl) pa_nil))))) (pw_or1 (pt_cmpR op_ne (pe_callB call_len (by rfl) T.b_len (by decide +kernel) (pa_cons (pe_ix ix_tup (pv 7) pe_int (fun _ _ => rfl)) pa_nil)) (pv 3) (nomark _))))))) (pss_one (ps_ret pe_bl)) pss_nil)
      (pss_cons (ps_set (i := 8) sc__law_walked.nd rfl (Or.inl rfl) (pe_callB (cr_sum rfl) (by rfl) T.b_sum (by decide +kernel) (pa_cons (pe_lc (own := [("shown", 9)]) (g := (gName 9)) (tt := tYes) rfl sc__law_walked.nd (pi_tup (pe_ix ix_tup (pv 7) pe_int (fun _ _ => rfl))) (blkOk_by (N := N__law_walked) (sc := defScope s__law_walked) (by decide +kernel)) (fun _ _ _ _ _ => (pg_name (i := 9) sc__law_walked.nd rfl (Or.inl rfl))) (fun _ _ _ _ _ => pts_nil) (fun _ _ _ _ _ => (pe_d D__law_worth (hr.mono (by decide)) (by rfl) (pa_cons (pv 2) (pa_cons (pv 9) pa_nil))))) pa_nil)))
      (pss_one (ps_ret (pe_chain op_le op_le (pe_ix ix_tup (pv 4) pe_int (fun _ _ => rfl)) (pv 8) (pe_ix ix_tup (pv 4) pe_int (fun _ _ => rfl))))))))), ?_⟩
    have hC0 := hC
    obtain ⟨pc, pq, xs, rfl, hpc, hpq, hA⟩ := chn_at hC
    obtain ⟨pd, rfl, hpd⟩ := pq_at hd
    refine ⟨_, rfl, _, _, rfl, rfl, .inl ⟨by decide, by decide⟩, _, rfl, by omega, by omega, fun L hL => lc_range (lo := 0) (n := 3 * n) (fun j H' => ∃ tape : List Int, Go S D H H' ∧ H' L = some (.lst (tape.map V.int)) ∧ tape.length = j ∧ ∀ x ∈ tape, 0 ≤ x ∧ x < b) ⟨[], Go.new d hL, upd_same, rfl, fun _ h => absurd h List.not_mem_nil⟩ ?_ ?_⟩
    · rintro i H1 hi ⟨tape, g, hL1, hl, ht⟩
      have LD := (d.free hL).1
      refine ⟨rfl, _, rfl, _, rfl, pc, _, _, _, rfl, rfl, sqt_keep (Go.keepT d g) hpc, atI_nat (j := 1) rfl, S, D, b, rfl, divW_of (by have := ok.b2; omega) (by have := ok.b6; omega), g.1, fun H2 v v0 v1 g2 => ⟨_, g2.2 _ _ hL1 LD, ?_, tape ++ [v], goU hL d (g.trans g2), ?_, ?_, fun x hx => ?_⟩⟩
      · rw [List.length_map]
        exact line6 (by omega)
      · rw [upd_same, List.map_append]
        rfl
      · rw [List.length_append, hl]
        rfl
      · rcases List.mem_append.mp hx with h | h
        · exact ht x h
        · rw [List.mem_singleton.mp h]
          exact ⟨v0, v1⟩
    · rintro H1 ⟨tape, g, hL1, hl, ht⟩
      refine ⟨L, _, rfl, .inl ⟨SqL.of hL1, fun pt hpt => ?_⟩⟩
      have g2 := g.trans (Go.new (o := .tup (tape.map V.int)) g.1 hpt)
      have hpt2 := upd_same (H := H1) (a := pt) (o := .tup (tape.map V.int))
      generalize upd H1 pt (.tup (tape.map V.int)) = H2 at g2 hpt2
      have k2 := Go.keepT d g2
      refine ⟨_, rfl, _, rfl, _, rfl, .ref pc, .ref pt, n, b, C, tape, rfl, dp_keep k2 _ _ (dChn_noL b C) hC0, ok, i_of (SqT.of hpt2), ht, by omega, by omega, fun H3 v shs s rd s3 way hsl h6 hv => ?_⟩
      obtain ⟨p, xs', rfl, h1, hA1⟩ := dp_tup hv
      obtain ⟨x0, r0, rfl, h0, hA1⟩ := dpA_cons hA1
      obtain ⟨x1, r1, rfl, h2, hA1⟩ := dpA_cons hA1
      obtain ⟨x2, r2, rfl, h3, hA1⟩ := dpA_cons hA1
      cases dpA_nil hA1
      obtain ⟨p0, ys, rfl, hp0, hys⟩ := dp_tup h0
      have yl := dpA_len hys
      rw [List.length_map] at yl
      have g3 := g2.trans (Go.same g2.1 s3)
      refine ⟨_, rfl, _, .ty "tuple", .type "tuple", .type "tuple", true, rfl, .ty _, sqt_ty h1, kit_ty (by decide +kernel), true, rfl, iteNT ?_⟩
      refine ⟨_, rfl, _, _, rfl, .inr ⟨_, h1, rfl⟩, rfl, _, rfl, ite2 (fun h => absurd h (by show ¬ (!decide (V.int ((3 : Nat) : Int) = V.int 3)) = true; decide)) (fun _ => ?_)⟩
      refine ⟨_, rfl, p, _, _, _, rfl, rfl, h1, atI_nat (j := 0) rfl, _, .ty "tuple", .type "tuple", .type "tuple", true, rfl, .ty _, sqt_ty hp0, kit_ty (by decide +kernel), true, rfl, iteNT ?_⟩
      refine ⟨_, rfl, p, _, _, _, rfl, rfl, h1, atI_nat (j := 0) rfl, _, _, rfl, .inr ⟨_, hp0, rfl⟩, _, rfl, rfl, _, rfl, ite2 (fun h => absurd h ?_) (fun _ => ?_)⟩
      · rw [yl, hsl]
        simp
      · refine ⟨_, rfl, p, _, _, _, rfl, rfl, h1, atI_nat (j := 0) rfl, p0, rfl, ⟨_, hp0⟩, fun M hM => lc_tup (K := K) (a := p0) (xs := ys) (fun j H' => Same H3 H' ∧ H' M = some (.lst (((shs.take j).map (wv W)).map V.int))) ⟨same_new hM, upd_same⟩ (fun j H' _ e => same_t e.1 hp0) ?_ ?_⟩
        · rintro j y H4 hj ⟨s4, hM4⟩
          obtain ⟨sh, hsh, hy⟩ := dpA_mem hys hj
          have h6' := h6 sh (List.mem_of_getElem? hsh)
          have jl := (List.getElem?_eq_some_iff.mp hsh).1
          refine ⟨rfl, _, rfl, _, rfl, vw, y, W, sh, rfl, (hw.go d g3).same s4, nd, hwl, dp_same s4 _ _ hy, by omega, fun H5 s5 => ⟨_, s5 _ _ hM4, ?_, same_mut (s4.trans s5) hM, ?_⟩⟩
          · rw [List.length_map, List.length_map, List.length_take]
            exact line6 (by omega)
          · rw [upd_same, List.take_add_one, hsh, List.map_append, List.map_append]
            rfl
        · rintro H4 ⟨s4, hM4⟩
          rw [yl, List.take_length] at hM4
          have bt := way_between ok W way
          rw [hsl] at bt
          have g4 := g3.trans (Go.same g3.1 s4)
          have hpd4 := sqt_keep (Go.keepT d g4) hpd
          refine ⟨M, _, rfl, SqL.of hM4, ?_⟩
          refine ⟨_, rfl, pd, _, _, _, rfl, rfl, hpd4, atI_nat (j := 0) rfl, _, rfl, _, _, rfl, rfl, _, rfl, ite2 (fun _ => ?_) (fun h => absurd (decide_eq_true bt.1) h)⟩
          refine ⟨_, rfl, pd, _, _, _, rfl, rfl, hpd4, atI_nat (j := 1) rfl, _, _, rfl, rfl, ?_⟩
          have e := decide_eq_true bt.2
          show Q (.bl (decide (ws W shs ≤ at0 (hi (C.map (wRow W)) n) 0))) H4
          rw [e]
          exact q _ g4
end
end Mt
namespace Mt
open PySem PySem.Spec PyProof.Rows L2
theorem pool_nd : POOL.Nodup := by decide +kernel
theorem erase_perm {α : Type} : ∀ {l : List α} {i : Nat} {z : α}, l[i]? = some z → (z :: l.eraseIdx i).Perm l
  | [], i, _, h => by simp at h
  | x :: r, 0, z, h => by
    have : x = z := Option.some.inj h
    subst this
    exact .refl _
  | x :: r, i + 1, z, h => by
    have h' : r[i]? = some z := by simpa using h
    exact (List.Perm.swap x z _).trans ((erase_perm h').cons x)
theorem nodup_move {α : Type} {l m : List α} {i : Nat} {z : α} (h : (l ++ m).Nodup) (e : l[i]? = some z) : (l.eraseIdx i ++ (m ++ [z])).Nodup := by
  have p : (l.eraseIdx i ++ (m ++ [z])).Perm (l ++ m) := by
    have p1 : (l.eraseIdx i ++ (m ++ [z])).Perm (z :: (l.eraseIdx i ++ m)) := by
      rw [← List.append_assoc]
      exact List.perm_append_singleton z _
    exact p1.trans ((erase_perm e).append_right m)
  exact p.nodup_iff.mpr h
theorem rowD_at {K : PySem.W.Frag} {H : Hp} {R : WR} {zs : List V} {n m : Nat} (h : DpAll K H zs ((List.range (n + 1)).map (rowD R))) (hm : m ≤ n) : ∃ p, zs[m]? = some (.ref p) ∧ SqT K H p [.int (at0 (lo R m) 0), .int (at0 (hi R m) 0)] := by
  obtain ⟨x, h1, h2⟩ := dpA_get h (show (List.range (n + 1))[m]? = some m from List.getElem?_range (by omega))
  obtain ⟨p, rfl, h3⟩ := pq_at h2
  exact ⟨p, h1, h3⟩
theorem sql_go {K : PySem.W.Frag} {S D a : Addr} {H H' : Hp} {xs : List V} (g : Go S D H H') (n : a ≠ D) (h : SqL K H a xs) : SqL K H' a xs := by
  rcases h with (h | ⟨o, h⟩) | h
  · exact .inl (.inl (g.2 _ _ h n))
  · exact .inl (.inr ⟨o, g.2 _ _ h n⟩)
  · exact .inr h
section
variable {P : Program} {w : World} {K : PySem.W.Frag} {mg : Str → Option Value} {base : Heap}
theorem ok_law (T : Txt K mg) (D__law_begin : Kept P w K mg base 1 "_law_begin" ["script"] (spBegin K)) (D__law_draw : Kept P w K mg base 1 "_law_draw" ["d", "many"] spDraw) (D__law_pop : Kept P w K mg base 2 "_law_pop" ["d", "row"] spPop) (D__law_rare : Kept P w K mg base 2 "_law_rare" ["d", "many"] spRare) (D__law_pool : Kept P w K mg base 1 "_law_pool" [] spPool) (D__law_rich_chain : Kept P w K mg base 5 "_law_rich_chain" ["d", "marks", "most"] (spRChain K)) (D__law_drawn_worths : Kept P w K mg base 3 "_law_drawn_worths" ["d", "marks"] (spWorths K)) (D__law_extremes : Kept P w K mg base 2 "_law_extremes" ["chain", "worths", "most"] (spExtr K)) (D__law_over_leaves : Kept P w K mg base 2 "_law_over_leaves" ["chain", "worths", "n"] (spOver K)) (D__law_told : Kept P w K mg base 4 "_law_told" ["chain", "worths", "n", "due"] (spTold K)) (D__law_walked : Kept P w K mg base 3 "_law_walked" ["d", "chain", "worths", "n", "due"] (spWalked K)) {f : Addr} {fd : FuncData} (F : FnP K "law" s_law f fd) : FnOk P w K mg base CX0 6 f fd ["script"] (spLaw K) := by
  refine F.ok sc_law (fun vs H Q E h => ?_) (fun cdv A outer s H vs Q E hr h => ?_)
  · obtain ⟨a, ns, rfl, _⟩ := h
    rfl
  · obtain ⟨a, ns, rfl, hS, hl, q⟩ := h
    refine ⟨_, PSs.nox (pss_cons (ps_set (i := 1) sc_law.nd rfl (Or.inr rfl) (pe_d D__law_begin (hr.mono (by decide)) (by rfl) (pa_cons (pv 0) pa_nil)))
      (pss_cons (ps_set (i := 2) sc_law.nd rfl (Or.inr rfl) (pe_d0 D__law_pool (hr.mono (by decide)) (by rfl)))
      (pss_cons (ps_setLc (i := 3) (own := [("k", 4)]) (g := (gName 4)) (tt := tYes) rfl sc_law.nd rfl rfl (sw_true rfl rfl rfl (by decide +kernel)) (pi_range1 (by rfl) T.b_range (pa_cons pe_int pa_nil)) (blkOk_by (N := N_law) (sc := defScope s_law) (by decide +kernel)) (fun _ _ _ _ _ => (pg_name (i := 4) sc_law.nd rfl (Or.inl rfl))) (fun _ _ _ _ _ => pts_nil) (fun _ _ _ _ _ => (pe_d D__law_pop (hr.mono (by decide)) (by rfl) (pa_cons (pv 1) (pa_cons (pv 2) pa_nil)))))
      (pss_cons (ps_set (i := 5) sc_law.nd rfl (Or.inl rfl) (pe_d D__law_rich_chain (hr.mono (by decide)) (by rfl) (pa_cons (pv 1) (pa_cons (pe_slice sl_list (pv 3) po_none (po_some pe_int)) (pa_cons pe_int pa_nil)))))
      (pss_cons (ps_set (i := 6) sc_law.nd rfl (Or.inl rfl) (pe_d D__law_drawn_worths (hr.mono (by decide)) (by rfl) (pa_cons (pv 1) (pa_cons (pv 3) pa_nil))))
      (pss_cons (ps_set (i := 7) sc_law.nd rfl (Or.inl rfl) (pe_op op_add pe_int (pe_d D__law_draw (hr.mono (by decide)) (by rfl) (pa_cons (pv 1) (pa_cons pe_int pa_nil)))))
      (Evl.pss_cut (ps_if (pt_val (pe_d D__law_rare (hr.mono (by decide)) (by rfl) (pa_cons (pv 1) (pa_cons pe_int pa_nil)))) (pss_one (ps_set (i := 7) sc_law.nd rfl (Or.inl rfl) (pe_op op_add pe_int (pe_d D__law_draw (hr.mono (by decide)) (by rfl) (pa_cons (pv 1) (pa_cons pe_int pa_nil)))))) pss_nil)
      (pss_cons (ps_set (i := 8) sc_law.nd rfl (Or.inl rfl) (pe_d D__law_extremes (hr.mono (by decide)) (by rfl) (pa_cons (pv 5) (pa_cons (pv 6) (pa_cons (pv 7) pa_nil)))))
      (pss_cons (ps_for PassesOwn.never rfl (pi_range1 (by rfl) T.b_range (pa_cons pe_int pa_nil)) (pg_name (i := 9) sc_law.nd rfl (Or.inl rfl)) (pss_cons (ps_set (i := 10) sc_law.nd rfl (Or.inl rfl) (pe_d D__law_over_leaves (hr.mono (by decide)) (by rfl) (pa_cons (pv 5) (pa_cons (pv 6) (pa_cons (pv 9) pa_nil)))))
      (pss_one (ps_if (PW.pt (pw_and (pt_cmpR op_notN (pv 10) pe_non (nomark _)) (pw_and1 (pt_not (pt_val (pe_d D__law_told (hr.mono (by decide)) (by rfl) (pa_cons (pv 5) (pa_cons (pv 6) (pa_cons (pv 9) (pa_cons (pv 10) pa_nil)))))))))) (pss_one (ps_ret pe_bl)) pss_nil))))
      (pss_cons (ps_for PassesOwn.never rfl (pi_list (pe_op op_cat (pe_listRg rfl rfl T.b_list (prg_1 rfl T.b_range (pe_op op_add (pe_callB (call_min2 rfl) (by rfl) T.b_min (by decide +kernel) (pa_cons (pv 7) (pa_cons pe_int pa_nil))) pe_int))) (pe_lst (pa_cons (pv 7) pa_nil)))) (pg_name (i := 9) sc_law.nd rfl (Or.inl rfl)) (pss_one (ps_if (pt_not (pt_val (pe_d D__law_told (hr.mono (by decide)) (by rfl) (pa_cons (pv 5) (pa_cons (pv 6) (pa_cons (pv 9) (pa_cons (pe_ix ix_list (pv 8) (pv 9) (fun _ _ => rfl)) pa_nil))))))) (pss_one (ps_ret pe_bl)) pss_nil)))
      (pss_cons (ps_set (i := 11) sc_law.nd rfl (Or.inl rfl) (pe_callTy (tupKK (K := K) rfl) (by rfl) T.b_tuple (by decide +kernel) (pa_cons (pe_lc (own := [("mark", 12), ("worth", 13)]) (g := (gTup K 2 (gCons (gName 12) (gCons (gName 13) gNil)))) (tt := tYes) rfl sc_law.nd (pi_tup (pv 6)) (blkOk_by (N := N_law) (sc := defScope s_law) (by decide +kernel)) (fun _ _ _ _ _ => (pg_tup rfl (pgs_cons (pg_name (i := 12) sc_law.nd rfl (Or.inl rfl)) (pgs_cons (pg_name (i := 13) sc_law.nd rfl (Or.inl rfl)) pgs_nil)))) (fun _ _ _ _ _ => pts_nil) (fun _ _ _ _ _ => (pe_tup (pa_cons (pv 12) (pa_cons (pe_un un_neg (pv 13)) pa_nil))))) pa_nil)))
      (pss_cons (ps_if (pt_not (pt_val (pe_d D__law_told (hr.mono (by decide)) (by rfl) (pa_cons (pv 5) (pa_cons (pv 11) (pa_cons (pv 7) (pa_cons (pe_tup (pa_cons (pe_un un_neg (pe_ix ix_tup (pe_ix ix_list (pv 8) (pv 7) (fun _ _ => rfl)) pe_int (fun _ _ => rfl))) (pa_cons (pe_un un_neg (pe_ix ix_tup (pe_ix ix_list (pv 8) (pv 7) (fun _ _ => rfl)) pe_int (fun _ _ => rfl))) pa_nil))) pa_nil))))))) (pss_one (ps_ret pe_bl)) pss_nil)
      (pss_cons (ps_set (i := 9) sc_law.nd rfl (Or.inl rfl) (pe_callB (call_min2 rfl) (by rfl) T.b_min (by decide +kernel) (pa_cons (pv 7) (pa_cons (pe_op op_add pe_int (pe_d D__law_draw (hr.mono (by decide)) (by rfl) (pa_cons (pv 1) (pa_cons pe_int pa_nil)))) pa_nil))))
      (pss_one (ps_ret (pe_and (pe_d D__law_walked (hr.mono (by decide)) (by rfl) (pa_cons (pv 1) (pa_cons (pv 5) (pa_cons (pv 6) (pa_cons (pv 9) (pa_cons (pe_ix ix_list (pv 8) (pv 9) (fun _ _ => rfl)) pa_nil)))))) (pe_one (pe_d D__law_told (hr.mono (by decide)) (by rfl) (pa_cons (pv 5) (pa_cons (SR.pe_tupK pa_nil) (pa_cons (pv 7) (pa_cons (pe_tup (pa_cons pe_int (pa_cons pe_int pa_nil))) pa_nil)))))))))))))))))))))), ?_⟩
    refine ⟨_, rfl, a, ns, rfl, hS, hl, fun S D H1 s1 D0 d => ?_⟩
    refine ⟨rfl, fun Nm hNm => ?_⟩
    have d2 := d.new (o := .lst (POOL.map V.str)) hNm
    have NmD := (d.free hNm).1
    have NmS := (d.free hNm).2
    have hN2 := upd_same (H := H1) (a := Nm) (o := .lst (POOL.map V.str))
    generalize upd H1 Nm (.lst (POOL.map V.str)) = H2 at d2 hN2
    refine ⟨_, rfl, by decide, by decide, fun Lm hLm => lc_range (lo := 0) (n := 4) (fun j H' => ∃ nms ms : List Str, DrawAt S D H' ∧ H' Nm = some (.lst (nms.map V.str)) ∧ H' Lm = some (.lst (ms.map V.str)) ∧ nms.length + j = 60 ∧ ms.length = j ∧ (nms ++ ms).Nodup)
      ⟨POOL, [], d2.new hLm, same_new hLm _ _ hN2, upd_same, by rw [pool_len], rfl, by rw [List.append_nil]; exact pool_nd⟩ ?_ ?_⟩
    · rintro j H4 hj ⟨nms, ms, d4, hN4, hM4, hl4, hm4, ho⟩
      have LmD := (d2.free hLm).1
      have LmS := (d2.free hLm).2
      have LmN : Lm ≠ Nm := (ne_of_none hN2 hLm).symm
      refine ⟨rfl, _, rfl, _, rfl, S, D, Nm, nms.map V.str, rfl, d4, NmD, hN4, by rw [List.length_map]; omega, by rw [List.length_map]; omega, fun H5 jx x g5 hx => ?_⟩
      rw [List.getElem?_map] at hx
      obtain ⟨z, hz, rfl⟩ := Option.map_eq_some_iff.mp hx
      have hjx := (List.getElem?_eq_some_iff.mp hz).1
      have ee : (nms.map V.str).eraseIdx jx = (nms.eraseIdx jx).map V.str := by
        first
          | exact List.eraseIdx_map ..
          | exact (List.map_eraseIdx ..).symm
          | simp [List.eraseIdx_eq_take_drop_succ]
      rw [ee]
      have hM5 := g5.2 _ _ hM4 LmD
      refine ⟨_, by rw [upd_ne LmN]; exact hM5, by rw [List.length_map]; exact line6 (by omega), nms.eraseIdx jx, ms ++ [z], (g5.1.upd NmD NmS).upd LmD LmS, by rw [upd_ne LmN.symm, upd_same], by rw [upd_same, List.map_append]; rfl, ?_, by rw [List.length_append, List.length_singleton, hm4], nodup_move ho hz⟩
      rw [List.length_eraseIdx_of_lt hjx]
      omega
    · rintro H4 ⟨nms, ms, d4, hN4, hM4, hl4, hm4, ho⟩
      have ndM : ms.Nodup := (List.nodup_append.mp ho).2.1
      have LmD := (d2.free hLm).1
      have ec : cutV (ms.map V.str) none (some 3) = (ms.take 3).map V.str := by
        unfold cutV
        rw [HT.sIx_none, show (some 3 : Option Int) = some ((3 : Nat) : Int) from rfl, HT.sIx_nat, List.length_map, hm4, List.drop_zero, ← List.map_take]
        rfl
      refine ⟨_, rfl, _, rfl, _, rfl, Lm, _, rfl, SqL.of hM4, fun p3 hp3 => ?_⟩
      rw [ec]
      have g5 := Go.new (o := .lst ((ms.take 3).map V.str)) d4 hp3
      have hp35 := upd_same (H := H4) (a := p3) (o := .lst ((ms.take 3).map V.str))
      have p3D := (d4.free hp3).1
      generalize upd H4 p3 (.lst ((ms.take 3).map V.str)) = H5 at g5 hp35
      refine ⟨S, D, p3, 8, ms.take 3, rfl, g5.1, p3D, hp35, by rw [List.length_take]; omega, by rw [List.length_take]; omega, by decide, by decide, fun H6 vc b C g6 hC ok => ?_⟩
      have g56 := g5.trans g6
      refine ⟨_, rfl, _, rfl, S, D, Lm, ms, rfl, g6.1, LmD, g56.2 _ _ hM4 LmD, ndM, by omega, fun H7 vw W g7 hw nd hwl => ?_⟩
      have hC7 := dp_keep (Go.keepT g6.1 g7) _ _ (dChn_noL b C) hC
      refine ⟨_, rfl, S, D, 7, rfl, divW_of (by decide) (by decide), g7.1, fun H8 v v0 v1 g8 => ⟨_, _, rfl, rfl, ?_⟩⟩
      have hC8 := dp_keep (Go.keepT g7.1 g8) _ _ (dChn_noL b C) hC7
      have hw8 := hw.go g7.1 g8
      refine ⟨fun σ' H' => ∃ mo : Nat, σ' = [some (.ref a), some (.ref D), some (.ref Nm), some (.ref Lm), none, some vc, some vw, some (.int mo), none, none, none, none, none, none] ∧ mo ≤ 200 ∧ DrawAt S D H' ∧ Dp K H' vc (dChn b C) ∧ WAt K H' vw W, ?_, ?_⟩
      · refine ⟨_, rfl, S, D, 9, rfl, by decide, by decide, g8.1, fun H9 bb g9 => ⟨bb, rfl, ?_⟩⟩
        have hC9 := dp_keep (Go.keepT g8.1 g9) _ _ (dChn_noL b C) hC8
        have hw9 := hw8.go g8.1 g9
        refine ite2 (fun _ => ?_) (fun _ => ⟨(3 + v).toNat, ?_, by omega, g9.1, hC9, hw9⟩)
        · refine ⟨_, rfl, S, D, 101, rfl, divW_of (by decide) (by decide), g9.1, fun H10 u u0 u1 g10 => ⟨_, _, rfl, rfl, (100 + u).toNat, ?_, by omega, g10.1, dp_keep (Go.keepT g9.1 g10) _ _ (dChn_noL b C) hC9, hw9.go g9.1 g10⟩⟩
          rw [Int.toNat_of_nonneg (by omega)]
          rfl
        · rw [Int.toNat_of_nonneg (by omega)]
          rfl
      · rintro σ' H9 ⟨mo, rfl, hmo, d9, hC9, hw9⟩
        have nd' := nd
        refine ⟨_, rfl, _, rfl, _, rfl, vc, vw, mo, b, C, W, rfl, hC9, ok, hw9, nd, by omega, by omega, fun H10 Lr s10 Lr0 hv => ?_⟩
        have LrD := (d9.free Lr0).1
        obtain ⟨Lr', zs, eLr, hLr, hzs⟩ := dp_lst hv
        cases eLr
        have g10 := Go.same d9 s10
        have hC10 := dp_same s10 _ _ hC9
        have hw10 := hw9.same s10
        have d10 := g10.1
        refine ⟨_, rfl, by decide, by decide, for_range (lo := 0) (n := 5) (fun i σ H' => ∃ (y9 y10 : Option V), σ = [some (.ref a), some (.ref D), some (.ref Nm), some (.ref Lm), none, some vc, some vw, some (.int mo), some (.ref Lr), y9, y10, none, none, none] ∧ Same H10 H') ⟨_, _, rfl, Same.refl _⟩ ?_ ?_⟩
        · rintro i σ H11 hi ⟨y9, y10, rfl, s11⟩
          rw [Int.zero_add]
          refine ⟨_, rfl, _, rfl, _, rfl, vc, vw, i, b, C, W, rfl, dp_same s11 _ _ hC10, ok, hw10.same s11, nd, by omega, by omega, fun H12 s12 => ?_, fun H12 p s12 hp => ?_⟩
          · exact ⟨_, rfl, rfl, _, rfl, ite2 (fun h => absurd h (by decide)) (fun _ => ⟨_, _, rfl, s11.trans s12⟩)⟩
          · rw [lv_lo ok, lv_hi ok] at hp
            have s112 := s11.trans s12
            refine ⟨_, rfl, rfl, _, rfl, ite2 (fun _ => ?_) (fun h => absurd rfl h)⟩
            refine ⟨_, rfl, _, rfl, _, rfl, _, rfl, vc, vw, .ref p, i, b, C, W, rfl, dp_same s112 _ _ hC10, ok, hw10.same s112, nd, by omega, by omega, .tup (SqT.of hp) (.cons (.int _) (.cons (.int _) .nil)), fun H13 s13 => ?_⟩
            exact ⟨_, rfl, iteNT ⟨_, _, rfl, s112.trans s13⟩⟩
        · rintro σ H11 ⟨y9, y10, rfl, s11⟩
          have hC11 := dp_same s11 _ _ hC10
          have hw11 := hw10.same s11
          have d11 := (Go.same d10 s11).1
          have hLr11 := same_l s11 hLr
          have hzs11 := dpA_same s11 _ _ hzs
          refine ⟨_, rfl, _, _, rfl, _, _, rfl, rfl, _, rfl, ?_, fun q1 hq1 => ⟨_, rfl, by show 1 ≤ sizeLine; decide, fun q2 hq2 => ⟨q1, q2, _, _, rfl, rfl, same_new hq2 _ _ upd_same, upd_same, ?_, fun Lc hLc => ?_⟩⟩⟩
          · exact RgOk.of_le (by omega) (by split <;> omega) (by omega) (by split <;> omega)
          · rw [rgV_length]
            exact line5 (by show _ + 1 ≤ _; split <;> omega)
          have key : ∀ (j : Nat) (x : V), (rgV 0 ((if (9 : Int) < (mo : Int) then (9 : Int) else (mo : Int)) + 1) ++ [V.int (mo : Int)])[j]? = some x → ∃ k : Nat, k ≤ mo ∧ x = .int (k : Int) := fun j x hx => by
            rcases List.mem_append.mp (List.mem_of_getElem? hx) with h | h
            · obtain ⟨k, hk, rfl⟩ := List.mem_map.mp h
              have := List.mem_range.mp hk
              refine ⟨k, ?_, by rw [Int.zero_add]⟩
              split at this <;> omega
            · exact ⟨mo, Nat.le_refl _, List.mem_singleton.mp h⟩
          have s12 : Same H11 (upd (upd (upd H11 q1 (.lst (rgV 0 ((if (9 : Int) < (mo : Int) then (9 : Int) else (mo : Int)) + 1)))) q2 (.lst [.int (mo : Int)])) Lc (.lst (rgV 0 ((if (9 : Int) < (mo : Int) then (9 : Int) else (mo : Int)) + 1) ++ [V.int (mo : Int)]))) := ((same_new hq1).trans (same_new hq2)).trans (same_new hLc)
          have hLc12 := upd_same (H := upd (upd H11 q1 (.lst (rgV 0 ((if (9 : Int) < (mo : Int) then (9 : Int) else (mo : Int)) + 1)))) q2 (.lst [.int (mo : Int)])) (a := Lc) (o := .lst (rgV 0 ((if (9 : Int) < (mo : Int) then (9 : Int) else (mo : Int)) + 1) ++ [V.int (mo : Int)]))
          generalize upd (upd (upd H11 q1 (.lst (rgV 0 ((if (9 : Int) < (mo : Int) then (9 : Int) else (mo : Int)) + 1)))) q2 (.lst [.int (mo : Int)])) Lc (.lst (rgV 0 ((if (9 : Int) < (mo : Int) then (9 : Int) else (mo : Int)) + 1) ++ [V.int (mo : Int)])) = H12 at s12 hLc12
          generalize rgV 0 ((if (9 : Int) < (mo : Int) then (9 : Int) else (mo : Int)) + 1) ++ [V.int (mo : Int)] = XS at key hLc12
          have hC12 := dp_same s12 _ _ hC11
          have hw12 := hw11.same s12
          have d12 := (Go.same d11 s12).1
          have hLr12 := same_l s12 hLr11
          have hzs12 := dpA_same s12 _ _ hzs11
          refine ⟨Lc, rfl, ⟨_, SqL.of hLc12⟩, for_list (K := K) (a := Lc) (xs := XS) (fun i σ H' => ∃ (y9 y10 : Option V), σ = [some (.ref a), some (.ref D), some (.ref Nm), some (.ref Lm), none, some vc, some vw, some (.int mo), some (.ref Lr), y9, y10, none, none, none] ∧ Same H12 H') ⟨_, _, rfl, Same.refl _⟩ (fun i σ H' _ ⟨_, _, _, s⟩ => SqL.of (s _ _ hLc12)) ?_ ?_⟩
          · rintro i x σ H13 hi ⟨y9, y10, rfl, s13⟩
            obtain ⟨k, hk, rfl⟩ := key i x hi
            obtain ⟨p, hz, hp⟩ := rowD_at hzs12 hk
            refine ⟨_, rfl, _, rfl, _, rfl, _, rfl, _, rfl, Lr, zs, _, _, rfl, rfl, same_l s13 hLr12, atI_nat hz, vc, vw, .ref p, k, b, C, W, rfl, dp_same s13 _ _ hC12, ok, hw12.same s13, nd, by omega, by omega, .tup (same_t s13 hp) (.cons (.int _) (.cons (.int _) .nil)), fun H14 s14 => ?_⟩
            exact ⟨_, rfl, iteNT ⟨_, _, rfl, s13.trans s14⟩⟩
          · rintro σ H13 ⟨y9, y10, rfl, s13⟩
            have hC13 := dp_same s13 _ _ hC12
            have hw13 := hw12.same s13
            have d13 := (Go.same d12 s13).1
            have hLr13 := same_l s13 hLr12
            have hzs13 := dpA_same s13 _ _ hzs12
            obtain ⟨aw, ps, rfl, hk, hps, hpW⟩ := id hw13
            have psl : ps.length = W.length := by rw [← hpW, List.length_map]
            refine ⟨_, rfl, aw, rfl, ⟨_, hk.sqt⟩, fun M hM => lc_tup (K := K) (a := aw) (xs := ps.map fun p => V.ref p.1) (fun j H' => Same H13 H' ∧ ∃ qs : List SR.Ptr, H' M = some (.lst (qs.map fun p => V.ref p.1)) ∧ (∀ p ∈ qs, SqT K H' p.1 [.str p.2.1, .int p.2.2]) ∧ qs.map (·.2) = ngW ((ps.take j).map (·.2))) ⟨same_new hM, [], upd_same, fun _ h => absurd h List.not_mem_nil, rfl⟩ (fun j H' _ e => same_t e.1 hk.sqt) ?_ ?_⟩
            · rintro j x H14 hj ⟨s14, qs, hM14, hqs, eqs⟩
              rw [List.getElem?_map] at hj
              obtain ⟨pt, hpt, rfl⟩ := Option.map_eq_some_iff.mp hj
              have jl := (List.getElem?_eq_some_iff.mp hpt).1
              have ql : qs.length = j := by
                have := congrArg List.length eqs
                unfold ngW at this
                rw [List.length_map, List.length_map, List.length_map, List.length_take] at this
                omega
              refine ⟨_, _, rfl, same_t s14 (hps pt (List.mem_of_getElem? hpt)), rfl, _, _, rfl, _, _, rfl, rfl, rfl, ?_⟩
              refine ⟨_, rfl, _, rfl, _, rfl, by show 2 ≤ sizeLine; decide, fun pn hpn => ?_⟩
              have s15 := same_new (o := .tup [.str pt.2.1, .int (-pt.2.2)]) hpn
              have hpn15 := upd_same (H := H14) (a := pn) (o := .tup [.str pt.2.1, .int (-pt.2.2)])
              generalize upd H14 pn (.tup [.str pt.2.1, .int (-pt.2.2)]) = H15 at s15 hpn15
              have hM15 := s15 _ _ hM14
              have kM := keepT_nt (o := .lst ((qs.map fun p => V.ref p.1) ++ [.ref pn])) (nt_lst _) hM15
              refine ⟨_, hM15, by rw [List.length_map]; exact line6 (by omega), same_mut (s14.trans s15) hM, qs ++ [(pn, pt.2.1, -pt.2.2)], by rw [upd_same, List.map_append]; rfl, fun p hp => ?_, ?_⟩
              · rcases List.mem_append.mp hp with h | h
                · exact sqt_keep kM (same_t s15 (hqs p h))
                · rw [List.mem_singleton.mp h]
                  exact sqt_keep kM (SqT.of hpn15)
              · rw [take_snoc hpt, List.map_append, List.map_append, eqs]
                unfold ngW
                rw [List.map_append]
                rfl
            · rintro H14 ⟨s14, qs, hM14, hqs, eqs⟩
              rw [List.length_map, List.take_length, hpW] at eqs
              refine ⟨M, _, rfl, SqL.of hM14, fun po oo hpo hoo => ?_⟩
              have s15 := same_new (o := .frz oo (.tup (qs.map fun p => V.ref p.1))) hpo
              have hpo15 := upd_same (H := H14) (a := po) (o := .frz oo (.tup (qs.map fun p => V.ref p.1)))
              generalize upd H14 po (.frz oo (.tup (qs.map fun p => V.ref p.1))) = H15 at s15 hpo15
              have hw15 : WAt K H15 (.ref po) (ngW W) := ⟨po, qs, rfl, ⟨oo, hpo15, hoo⟩, fun p hp => same_t s15 (hqs p hp), eqs⟩
              have s1315 := s14.trans s15
              have nd2 : ((ngW W).map (·.1)).Nodup := by
                unfold ngW
                rw [List.map_map]
                exact nd
              have ngl : (ngW W).length ≤ 1000 := by
                unfold ngW
                rw [List.length_map]
                omega
              obtain ⟨p, hz, hp⟩ := rowD_at hzs13 (Nat.le_refl mo)
              have hLr15 := same_l s1315 hLr13
              have hp15 := same_t s1315 hp
              refine ⟨_, rfl, _, rfl, _, rfl, _, rfl, _, rfl, Lr, zs, _, _, rfl, rfl, hLr15, atI_nat hz, p, _, _, _, rfl, rfl, hp15, atI_nat (j := 1) rfl, _, rfl, _, rfl, _, rfl, Lr, zs, _, _, rfl, rfl, hLr15, atI_nat hz, p, _, _, _, rfl, rfl, hp15, atI_nat (j := 0) rfl, _, rfl, by show 2 ≤ sizeLine; decide, fun pd hpd => ?_⟩
              have s16 := same_new (o := .tup [.int (-at0 (hi (C.map (wRow W)) mo) 0), .int (-at0 (lo (C.map (wRow W)) mo) 0)]) hpd
              have hpd16 := upd_same (H := H15) (a := pd) (o := .tup [.int (-at0 (hi (C.map (wRow W)) mo) 0), .int (-at0 (lo (C.map (wRow W)) mo) 0)])
              generalize upd H15 pd (.tup [.int (-at0 (hi (C.map (wRow W)) mo) 0), .int (-at0 (lo (C.map (wRow W)) mo) 0)]) = H16 at s16 hpd16
              have s1316 := s1315.trans s16
              have hC16 := dp_same s1316 _ _ hC13
              have hw16 := hw13.same s1316
              refine ⟨vc, .ref po, .ref pd, mo, b, C, ngW W, rfl, hC16, ok, hw15.same s16, nd2, ngl, by omega, ?_, fun H17 s17 => ⟨_, rfl, iteNT ?_⟩⟩
              · unfold rowD
                rw [rows_ng, lo_ng, hi_ng, at0_neg, at0_neg]
                exact .tup (SqT.of hpd16) (.cons (.int _) (.cons (.int _) .nil))
              · have s1317 := s1316.trans s17
                have d17 := (Go.same d13 s1317).1
                refine ⟨_, rfl, _, rfl, S, D, 9, rfl, divW_of (by decide) (by decide), d17, fun H18 u u0 u1 g18 => ⟨_, _, rfl, rfl, _, _, rfl, ?_⟩⟩
                obtain ⟨nn, en, hnn⟩ : ∃ nn : Nat, (if 1 + u < (mo : Int) then 1 + u else (mo : Int)) = (nn : Int) ∧ nn ≤ mo := by
                  refine ⟨(if 1 + u < (mo : Int) then 1 + u else (mo : Int)).toNat, ?_, ?_⟩
                  · split <;> omega
                  · split <;> omega
                rw [en]
                have hC18 := dp_keep (Go.keepT d17 g18) _ _ (dChn_noL b C) (dp_same s1317 _ _ hC13)
                have hw18 := (hw13.same s1317).go d17 g18
                have hLr18 := sql_go g18 LrD (same_l s1317 hLr13)
                obtain ⟨pn, hzn, hpn⟩ := rowD_at hzs13 hnn
                have hpn18 := sqt_keep (Go.keepT d17 g18) (same_t s1317 hpn)
                refine ⟨_, rfl, _, rfl, _, rfl, _, rfl, _, rfl, _, rfl, Lr, zs, _, _, rfl, rfl, hLr18, atI_nat hzn, S, D, vc, _, .ref pn, nn, b, C, W, rfl, g18.1, hC18, ok, hw18, nd, by omega, by omega, .tup hpn18 (.cons (.int _) (.cons (.int _) .nil)), fun H19 g19 => ⟨true, rfl, ?_⟩⟩
                have hC19 := dp_keep (Go.keepT g18.1 g19) _ _ (dChn_noL b C) hC18
                refine ⟨_, rfl, Nat.zero_le _, fun pe oe hpe hoe => ⟨_, rfl, by show 2 ≤ sizeLine; decide, fun pz hpz => ?_⟩⟩
                have se := same_new (o := .frz oe (.tup [])) hpe
                have sz := same_new (o := .tup [.int 0, .int 0]) hpz
                refine ⟨vc, .ref pe, .ref pz, mo, b, C, [], rfl, dp_same (se.trans sz) _ _ hC19, ok, ⟨pe, [], rfl, ⟨oe, sz _ _ upd_same, hoe⟩, fun _ h => absurd h List.not_mem_nil, rfl⟩, List.nodup_nil, Nat.zero_le _, by omega, ?_, fun H20 _ => q _⟩
                unfold rowD
                rw [(lo_none ok mo).1, (lo_none ok mo).2]
                exact .tup (SqT.of upd_same) (.cons (.int _) (.cons (.int _) .nil))
end
end Mt
namespace Mt
open PySem PySem.Spec PyProof.Rows L2
def dd_worth_of : He.DefD := ⟨("worth_of", none), "worth_of", "worth_of", defArgs s_worth_of, defBody s_worth_of, defScope s_worth_of, [], []⟩
def dd_greatest : He.DefD := ⟨("greatest", none), "greatest", "greatest", defArgs s_greatest, defBody s_greatest, defScope s_greatest, [], []⟩
def dd_worth_rows : He.DefD := ⟨("worth_rows", none), "worth_rows", "worth_rows", defArgs s_worth_rows, defBody s_worth_rows, defScope s_worth_rows, [], []⟩
def dd_walk : He.DefD := ⟨("walk", none), "walk", "walk", defArgs s_walk, defBody s_walk, defScope s_walk, [], []⟩
def dd_branch_at : He.DefD := ⟨("branch_at", none), "branch_at", "branch_at", defArgs s_branch_at, defBody s_branch_at, defScope s_branch_at, [], []⟩
def dd__law_begin : He.DefD := ⟨("_law_begin", none), "_law_begin", "_law_begin", defArgs s__law_begin, defBody s__law_begin, defScope s__law_begin, [], []⟩
def dd__law_draw : He.DefD := ⟨("_law_draw", none), "_law_draw", "_law_draw", defArgs s__law_draw, defBody s__law_draw, defScope s__law_draw, [], []⟩
def dd__law_pick : He.DefD := ⟨("_law_pick", none), "_law_pick", "_law_pick", defArgs s__law_pick, defBody s__law_pick, defScope s__law_pick, [], []⟩
def dd__law_pop : He.DefD := ⟨("_law_pop", none), "_law_pop", "_law_pop", defArgs s__law_pop, defBody s__law_pop, defScope s__law_pop, [], []⟩
def dd__law_rare : He.DefD := ⟨("_law_rare", none), "_law_rare", "_law_rare", defArgs s__law_rare, defBody s__law_rare, defScope s__law_rare, [], []⟩
def dd__law_pool : He.DefD := ⟨("_law_pool", none), "_law_pool", "_law_pool", defArgs s__law_pool, defBody s__law_pool, defScope s__law_pool, [], []⟩
def dd__law_is_int : He.DefD := ⟨("_law_is_int", none), "_law_is_int", "_law_is_int", defArgs s__law_is_int, defBody s__law_is_int, defScope s__law_is_int, [], []⟩
def dd__law_is_ints : He.DefD := ⟨("_law_is_ints", none), "_law_is_ints", "_law_is_ints", defArgs s__law_is_ints, defBody s__law_is_ints, defScope s__law_is_ints, [], []⟩
def dd__law_words : He.DefD := ⟨("_law_words", none), "_law_words", "_law_words", defArgs s__law_words, defBody s__law_words, defScope s__law_words, [], []⟩
def dd__law_worth : He.DefD := ⟨("_law_worth", none), "_law_worth", "_law_worth", defArgs s__law_worth, defBody s__law_worth, defScope s__law_worth, [], []⟩
def dd__law_leaves : He.DefD := ⟨("_law_leaves", none), "_law_leaves", "_law_leaves", defArgs s__law_leaves, defBody s__law_leaves, defScope s__law_leaves, [], []⟩
def dd__law_wide_shown : He.DefD := ⟨("_law_wide_shown", none), "_law_wide_shown", "_law_wide_shown", defArgs s__law_wide_shown, defBody s__law_wide_shown, defScope s__law_wide_shown, [], []⟩
def dd__law_wide_chain : He.DefD := ⟨("_law_wide_chain", none), "_law_wide_chain", "_law_wide_chain", defArgs s__law_wide_chain, defBody s__law_wide_chain, defScope s__law_wide_chain, [], []⟩
def dd__law_rich_chain : He.DefD := ⟨("_law_rich_chain", none), "_law_rich_chain", "_law_rich_chain", defArgs s__law_rich_chain, defBody s__law_rich_chain, defScope s__law_rich_chain, [], []⟩
def dd__law_drawn_worths : He.DefD := ⟨("_law_drawn_worths", none), "_law_drawn_worths", "_law_drawn_worths", defArgs s__law_drawn_worths, defBody s__law_drawn_worths, defScope s__law_drawn_worths, [], []⟩
def dd__law_extremes : He.DefD := ⟨("_law_extremes", none), "_law_extremes", "_law_extremes", defArgs s__law_extremes, defBody s__law_extremes, defScope s__law_extremes, [], []⟩
def dd__law_over_leaves : He.DefD := ⟨("_law_over_leaves", none), "_law_over_leaves", "_law_over_leaves", defArgs s__law_over_leaves, defBody s__law_over_leaves, defScope s__law_over_leaves, [], []⟩
def dd__law_told : He.DefD := ⟨("_law_told", none), "_law_told", "_law_told", defArgs s__law_told, defBody s__law_told, defScope s__law_told, [], []⟩
def dd__law_walked : He.DefD := ⟨("_law_walked", none), "_law_walked", "_law_walked", defArgs s__law_walked, defBody s__law_walked, defScope s__law_walked, [], []⟩
def dd_law : He.DefD := ⟨("law", none), "law", "law", defArgs s_law, defBody s_law, defScope s_law, [], []⟩
def dds : List He.DefD := [dd_worth_of, dd_greatest, dd_worth_rows, dd_walk, dd_branch_at, dd__law_begin, dd__law_draw, dd__law_pick, dd__law_pop, dd__law_rare, dd__law_pool, dd__law_is_int, dd__law_is_ints, dd__law_words, dd__law_worth, dd__law_leaves, dd__law_wide_shown, dd__law_wide_chain, dd__law_rich_chain, dd__law_drawn_worths, dd__law_extremes, dd__law_over_leaves, dd__law_told, dd__law_walked, dd_law]
def fas : List He.Fa := [.glo "worth_of", .glo "greatest", .glo "worth_rows", .glo "walk", .glo "branch_at", .glo "_law_begin", .glo "_law_draw", .glo "_law_pick", .glo "_law_pop", .glo "_law_rare", .glo "_law_pool", .glo "_law_is_int", .glo "_law_is_ints", .glo "_law_words", .glo "_law_worth", .glo "_law_leaves", .glo "_law_wide_shown", .glo "_law_wide_chain", .glo "_law_rich_chain", .glo "_law_drawn_worths", .glo "_law_extremes", .glo "_law_over_leaves", .glo "_law_told", .glo "_law_walked", .glo "law", .free "int", .free "abs", .free "len", .free "isinstance", .free "bool", .free "tuple", .free "list", .free "range", .free "sum", .free "all", .free "sorted", .free "min", .free "max", .free "dict"]
def exM (K : PySem.W.Frag) : Bool := true
abbrev R : PySem.W.OpenRow := PySem.W.OpenLaw.row PySem.Challenge.rw_meantrace_k79_whole_greatest
abbrev hk : PySem.W.Hook := hookM 4 fas dds exM
def ob (s : PySem.W.SharedT) : AlM := obsM 4 fas dds exM (HandSHeadRun.getT s)
theorem ob_eq (s : PySem.W.SharedT) : ob s = hk.obs s.abs := obsM_eq (HandSHeadRun.getT_eq s)
def names : List PySem.Str := ["MeanError", "Dry", "worth_of", "greatest", "worth_rows", "walk", "branch_at", "_law_begin", "_law_draw", "_law_pick", "_law_pop", "_law_rare", "_law_pool", "_law_is_int", "_law_is_ints", "_law_words", "_law_worth", "_law_leaves", "_law_wide_shown", "_law_wide_chain", "_law_rich_chain", "_law_drawn_worths", "_law_extremes", "_law_over_leaves", "_law_told", "_law_walked"]
theorem run (w : World) : HandSHeadRun.RunEq R (PySem.W.view R.prog [31]) hk ob 3000 names w := by
  intro os; kernel_rfl
theorem facts {P : Program} {w : World} {K : PySem.W.Frag} {h : Heap} {mg : Str → Option Value} {f : Addr} (X : K.In h) (G : h.Ns mainGlobals mg) (hfa : mg ("law" : Str) = some (.ref f)) (c : SaysM fas dds exM K) :
    ∃ fd : FuncData, (∀ (s : Shared) (v : Value), BindsTo s fd ⟨[v], []⟩ [("script", v)]) ∧ ∀ base : Heap, K.In base → base.Ns mainGlobals mg → FnOk P w K mg base CX0 6 f fd ["script"] (spLaw K) := by
  obtain ⟨fd, F⟩ := c.1.def_ 24 (d := dd_law) rfl
  have e := hfa.symm.trans (He.glo_ok X G (c.1.fact 24 (f := .glo "law") rfl))
  cases e
  have T : Txt K mg := ⟨He.free_ok X G (c.1.fact 25 (f := .free "int") rfl), He.free_ok X G (c.1.fact 26 (f := .free "abs") rfl), He.free_ok X G (c.1.fact 27 (f := .free "len") rfl), He.free_ok X G (c.1.fact 28 (f := .free "isinstance") rfl), He.free_ok X G (c.1.fact 29 (f := .free "bool") rfl), He.free_ok X G (c.1.fact 30 (f := .free "tuple") rfl), He.free_ok X G (c.1.fact 31 (f := .free "list") rfl), He.free_ok X G (c.1.fact 32 (f := .free "range") rfl), He.free_ok X G (c.1.fact 33 (f := .free "sum") rfl), He.free_ok X G (c.1.fact 34 (f := .free "all") rfl), He.free_ok X G (c.1.fact 35 (f := .free "sorted") rfl), He.free_ok X G (c.1.fact 36 (f := .free "min") rfl), He.free_ok X G (c.1.fact 37 (f := .free "max") rfl), He.free_ok X G (c.1.fact 38 (f := .free "dict") rfl)⟩
  have b := FunD.bindsA (ps := ["script"]) F fun _ _ _ _ _ _ us hl => match us, hl with | [_], _ => rfl
  refine ⟨fd, fun s v => b s [v] rfl, fun base _ _ => ?_⟩
  have D_worth_of : Kept P w K mg base 1 "worth_of" ["worths", "shown"] (spWorthOf K) := kept_of (st := s_worth_of) X G (c.1.def_ 0 (d := dd_worth_of) rfl) (c.1.fact 0 (f := .glo "worth_of") rfl) (fun _ _ _ _ _ _ us hl => match us, hl with | [_, _], _ => rfl) (fun f fd F => ok_worth_of T F)
  have D_branch_at : Kept P w K mg base 1 "branch_at" ["row", "tape", "at"] (spBranch K) := kept_of (st := s_branch_at) X G (c.1.def_ 4 (d := dd_branch_at) rfl) (c.1.fact 4 (f := .glo "branch_at") rfl) (fun _ _ _ _ _ _ us hl => match us, hl with | [_, _, _], _ => rfl) (fun f fd F => ok_branch_at T F)
  have D__law_begin : Kept P w K mg base 1 "_law_begin" ["script"] (spBegin K) := kept_of (st := s__law_begin) X G (c.1.def_ 5 (d := dd__law_begin) rfl) (c.1.fact 5 (f := .glo "_law_begin") rfl) (fun _ _ _ _ _ _ us hl => match us, hl with | [_], _ => rfl) (fun f fd F => ok__law_begin T F)
  have D__law_draw : Kept P w K mg base 1 "_law_draw" ["d", "many"] spDraw := kept_of (st := s__law_draw) X G (c.1.def_ 6 (d := dd__law_draw) rfl) (c.1.fact 6 (f := .glo "_law_draw") rfl) (fun _ _ _ _ _ _ us hl => match us, hl with | [_, _], _ => rfl) (fun f fd F => ok__law_draw T F)
  have D__law_pool : Kept P w K mg base 1 "_law_pool" [] spPool := kept_of (st := s__law_pool) X G (c.1.def_ 10 (d := dd__law_pool) rfl) (c.1.fact 10 (f := .glo "_law_pool") rfl) (fun _ _ _ _ _ _ us hl => match us, hl with | [], _ => rfl) (fun f fd F => ok__law_pool T F)
  have D__law_is_int : Kept P w K mg base 1 "_law_is_int" ["thing"] spIsInt := kept_of (st := s__law_is_int) X G (c.1.def_ 11 (d := dd__law_is_int) rfl) (c.1.fact 11 (f := .glo "_law_is_int") rfl) (fun _ _ _ _ _ _ us hl => match us, hl with | [_], _ => rfl) (fun f fd F => ok__law_is_int T F)
  have D__law_worth : Kept P w K mg base 1 "_law_worth" ["worths", "shown"] (spWorthOf K) := kept_of (st := s__law_worth) X G (c.1.def_ 14 (d := dd__law_worth) rfl) (c.1.fact 14 (f := .glo "_law_worth") rfl) (fun _ _ _ _ _ _ us hl => match us, hl with | [_, _], _ => rfl) (fun f fd F => ok__law_worth T F)
  have D__law_leaves : Kept P w K mg base 1 "_law_leaves" ["chain", "n", "most"] (spLeaves K) := kept_of (st := s__law_leaves) X G (c.1.def_ 15 (d := dd__law_leaves) rfl) (c.1.fact 15 (f := .glo "_law_leaves") rfl) (fun _ _ _ _ _ _ us hl => match us, hl with | [_, _, _], _ => rfl) (fun f fd F => ok__law_leaves T F)
  have D_worth_rows : Kept P w K mg base 2 "worth_rows" ["chain", "worths"] (spWRows K) := kept_of (st := s_worth_rows) X G (c.1.def_ 2 (d := dd_worth_rows) rfl) (c.1.fact 2 (f := .glo "worth_rows") rfl) (fun _ _ _ _ _ _ us hl => match us, hl with | [_, _], _ => rfl) (fun f fd F => ok_worth_rows T D_worth_of F)
  have D_walk : Kept P w K mg base 2 "walk" ["chain", "tape", "ticks"] (spWalk K) := kept_of (st := s_walk) X G (c.1.def_ 3 (d := dd_walk) rfl) (c.1.fact 3 (f := .glo "walk") rfl) (fun _ _ _ _ _ _ us hl => match us, hl with | [_, _, _], _ => rfl) (fun f fd F => ok_walk T D_branch_at F)
  have D__law_pick : Kept P w K mg base 2 "_law_pick" ["d", "row"] (spPick K) := kept_of (st := s__law_pick) X G (c.1.def_ 7 (d := dd__law_pick) rfl) (c.1.fact 7 (f := .glo "_law_pick") rfl) (fun _ _ _ _ _ _ us hl => match us, hl with | [_, _], _ => rfl) (fun f fd F => ok__law_pick T D__law_draw F)
  have D__law_pop : Kept P w K mg base 2 "_law_pop" ["d", "row"] spPop := kept_of (st := s__law_pop) X G (c.1.def_ 8 (d := dd__law_pop) rfl) (c.1.fact 8 (f := .glo "_law_pop") rfl) (fun _ _ _ _ _ _ us hl => match us, hl with | [_, _], _ => rfl) (fun f fd F => ok__law_pop T D__law_draw F)
  have D__law_rare : Kept P w K mg base 2 "_law_rare" ["d", "many"] spRare := kept_of (st := s__law_rare) X G (c.1.def_ 9 (d := dd__law_rare) rfl) (c.1.fact 9 (f := .glo "_law_rare") rfl) (fun _ _ _ _ _ _ us hl => match us, hl with | [_, _], _ => rfl) (fun f fd F => ok__law_rare T D__law_draw F)
  have D__law_is_ints : Kept P w K mg base 2 "_law_is_ints" ["row"] (spIsInts K) := kept_of (st := s__law_is_ints) X G (c.1.def_ 12 (d := dd__law_is_ints) rfl) (c.1.fact 12 (f := .glo "_law_is_ints") rfl) (fun _ _ _ _ _ _ us hl => match us, hl with | [_], _ => rfl) (fun f fd F => ok__law_is_ints T D__law_is_int F)
  have D__law_words : Kept P w K mg base 2 "_law_words" ["d", "base", "many"] (spWords K) := kept_of (st := s__law_words) X G (c.1.def_ 13 (d := dd__law_words) rfl) (c.1.fact 13 (f := .glo "_law_words") rfl) (fun _ _ _ _ _ _ us hl => match us, hl with | [_, _, _], _ => rfl) (fun f fd F => ok__law_words T D__law_draw F)
  have D__law_extremes : Kept P w K mg base 2 "_law_extremes" ["chain", "worths", "most"] (spExtr K) := kept_of (st := s__law_extremes) X G (c.1.def_ 20 (d := dd__law_extremes) rfl) (c.1.fact 20 (f := .glo "_law_extremes") rfl) (fun _ _ _ _ _ _ us hl => match us, hl with | [_, _, _], _ => rfl) (fun f fd F => ok__law_extremes T D__law_worth F)
  have D__law_over_leaves : Kept P w K mg base 2 "_law_over_leaves" ["chain", "worths", "n"] (spOver K) := kept_of (st := s__law_over_leaves) X G (c.1.def_ 21 (d := dd__law_over_leaves) rfl) (c.1.fact 21 (f := .glo "_law_over_leaves") rfl) (fun _ _ _ _ _ _ us hl => match us, hl with | [_, _, _], _ => rfl) (fun f fd F => ok__law_over_leaves T D__law_worth D__law_leaves F)
  have D_greatest : Kept P w K mg base 3 "greatest" ["chain", "worths", "n"] (spGreat K) := kept_of (st := s_greatest) X G (c.1.def_ 1 (d := dd_greatest) rfl) (c.1.fact 1 (f := .glo "greatest") rfl) (fun _ _ _ _ _ _ us hl => match us, hl with | [_, _, _], _ => rfl) (fun f fd F => ok_greatest T D_worth_rows F)
  have D__law_wide_shown : Kept P w K mg base 3 "_law_wide_shown" ["d", "marks"] (spShown K) := kept_of (st := s__law_wide_shown) X G (c.1.def_ 16 (d := dd__law_wide_shown) rfl) (c.1.fact 16 (f := .glo "_law_wide_shown") rfl) (fun _ _ _ _ _ _ us hl => match us, hl with | [_, _], _ => rfl) (fun f fd F => ok__law_wide_shown T D__law_pick F)
  have D__law_drawn_worths : Kept P w K mg base 3 "_law_drawn_worths" ["d", "marks"] (spWorths K) := kept_of (st := s__law_drawn_worths) X G (c.1.def_ 19 (d := dd__law_drawn_worths) rfl) (c.1.fact 19 (f := .glo "_law_drawn_worths") rfl) (fun _ _ _ _ _ _ us hl => match us, hl with | [_, _], _ => rfl) (fun f fd F => ok__law_drawn_worths T D__law_draw D__law_pick F)
  have D__law_walked : Kept P w K mg base 3 "_law_walked" ["d", "chain", "worths", "n", "due"] (spWalked K) := kept_of (st := s__law_walked) X G (c.1.def_ 23 (d := dd__law_walked) rfl) (c.1.fact 23 (f := .glo "_law_walked") rfl) (fun _ _ _ _ _ _ us hl => match us, hl with | [_, _, _, _, _], _ => rfl) (fun f fd F => ok__law_walked T D_walk D__law_draw D__law_worth F)
  have D__law_wide_chain : Kept P w K mg base 4 "_law_wide_chain" ["d", "base", "states", "marks"] (spWChain K) := kept_of (st := s__law_wide_chain) X G (c.1.def_ 17 (d := dd__law_wide_chain) rfl) (c.1.fact 17 (f := .glo "_law_wide_chain") rfl) (fun _ _ _ _ _ _ us hl => match us, hl with | [_, _, _, _], _ => rfl) (fun f fd F => ok__law_wide_chain T D__law_draw D__law_words D__law_wide_shown F)
  have D__law_told : Kept P w K mg base 4 "_law_told" ["chain", "worths", "n", "due"] (spTold K) := kept_of (st := s__law_told) X G (c.1.def_ 22 (d := dd__law_told) rfl) (c.1.fact 22 (f := .glo "_law_told") rfl) (fun _ _ _ _ _ _ us hl => match us, hl with | [_, _, _, _], _ => rfl) (fun f fd F => ok__law_told T D_greatest D__law_is_ints F)
  have D__law_rich_chain : Kept P w K mg base 5 "_law_rich_chain" ["d", "marks", "most"] (spRChain K) := kept_of (st := s__law_rich_chain) X G (c.1.def_ 18 (d := dd__law_rich_chain) rfl) (c.1.fact 18 (f := .glo "_law_rich_chain") rfl) (fun _ _ _ _ _ _ us hl => match us, hl with | [_, _, _], _ => rfl) (fun f fd F => ok__law_rich_chain T D__law_draw D__law_rare D__law_wide_chain F)
  exact ok_law T D__law_begin D__law_draw D__law_pop D__law_rare D__law_pool D__law_rich_chain D__law_drawn_worths D__law_extremes D__law_over_leaves D__law_told D__law_walked F
end Mt
open PySem PySem.W PySem.Calls PyProof.Rows
set_option maxHeartbeats 0 in
theorem PySem.Challenge.cw_meantrace_k79_whole_greatest_holds : PySem.Challenge.rw_meantrace_k79_whole_greatest.Holds := by
  w_on; o_law
  refine HandSHeadRun.head_any (r := OpenLaw.row PySem.Challenge.rw_meantrace_k79_whole_greatest) (q := view (OpenLaw.row PySem.Challenge.rw_meantrace_k79_whole_greatest).prog [31]) (H := Mt.hk) (ob := Mt.ob) (M := 3000) (loose := Mt.names) (d := HandSHeadRun.topDef (OpenLaw.row PySem.Challenge.rw_meantrace_k79_whole_greatest).prog 31) (kwd := []) Mt.ob_eq
    (by kernel_rfl) (fun s => by kernel_rfl) Mt.run (by kernel_rfl) (by kernel_rfl) (by kernel_rfl) (by rfl) (by first | assumption | decide +kernel) (by decide +kernel) ⟨rfl, rfl, rfl, rfl, rfl, by decide +kernel⟩ ?hw ?hc
  case hw => w_witness2
  case hc =>
    refine L2.walk_ofE (l := PySem.Challenge.rw_meantrace_k79_whole_greatest) (n := 63) (k := 6) (x := "script") (CX := L2.CX0) rfl (by decide) (by kernel_rfl) ⟨rfl, by decide, by decide⟩ ?F (fun _ _ _ _ z => z)
    intro w mg fa h Y G hmg0
    obtain ⟨K, KX, c⟩ := Y
    have hmg : mg ("law" : PySem.Str) = some (.ref fa) := by
      have e : (HandSHeadRun.topDef (OpenLaw.row PySem.Challenge.rw_meantrace_k79_whole_greatest).prog 31).name = ("law" : PySem.Str) := by kernel_rfl
      rw [← e]
      exact hmg0
    obtain ⟨fd, hb, hF⟩ := Mt.facts (P := (PySem.Challenge.rw_meantrace_k79_whole_greatest).prog) (w := w) KX G hmg c
    exact ⟨K, fd, Mt.spLaw K, KX, hb, fun H a ns hl hO hS => ⟨a, ns, rfl, hS, hl, fun _ => rfl⟩, hF⟩
