import PyProof.Rows.All
import Wide.All
import OpenK.AllK
import Wide.FinOn
import KE.KStateDown
import HandS.ForMost
import HandS.Wide
import HandS.IsInst
import HandS.Walk
import HandS.Style
import HandS.Evl
import HandS.StrMore
import HandS.Exc
import HandS.WordsExc
import HandS.Defaults
import HandS.Head0
import HandS.Head1
import HandS.Head2
import HandS.HeadEnd
import HandS.HeadHook1
import HandS.HeadHook2
import HandS.Gcd
import HandS.Head3
import HandS.Star
import HandS.RaiseMore
import HandS.AnyAll
import HandS.Conv
import HandS.More
import HandS.Small
import HandS.HeadHook3
import HandS.HeadHook4
import HandS.HeadWalk
import HandS.EndTab
import PyProof.GenCompT
import PyProof.TupleOfGen
import PyProof.WalksPairs
import KE.KTupSum
import KE.DataMinMax
import HandS.SortKw
import HandS.TupAny
import KE.KDictKeyed
import KE.SortData
import KE.KDictSum
import KE.KDictPairs
import HandS.Zip
import PySem.Challenge.RW_meantrace_k77_whole_latest
set_option Elab.async false
set_option linter.all false
set_option maxRecDepth 100000
/-! Our own words over the hand layer: defs of the top by name, the draws' state, heaps that go on. -/
namespace Mt
open PySem PySem.Spec PyProof.Rows L2
section
variable {P : Program} {w : World} {K : PySem.W.Frag} {mg : Str → Option Value} {base : Heap}
abbrev FnP (K : PySem.W.Frag) (x : Str) (st : Stmt) (f : Addr) (fd : FuncData) : Prop := FunD K x x (defArgs st) (defBody st) (defScope st) [] [] f fd
/-- a def that keeps its promise -/
def Kept (P : Program) (w : World) (K : PySem.W.Frag) (mg : Str → Option Value) (base : Heap) (k : Nat) (x : Str) (ps : List Str) (sp : Sp) : Prop :=
  ∃ f fd, FnOk P w K mg base CX0 k f fd ps sp ∧ mg x = some (.ref f) ∧ PySem.W.keepIn K (.ref f) = true ∧ Binds K fd ps []
/-- what the head tells: facts by names, defs, one more word of one's own -/
abbrev AlM : Type := He.AlD × Bool
def obsM (n : Nat) (fa : List He.Fa) (fn : List He.DefD) (ex : PySem.W.Frag → Bool) (g : Addr → Option Obj) : AlM := (He.obsDG n fa fn g, ex (He.frG g (He.asD g n)))
def SaysM (fa : List He.Fa) (fn : List He.DefD) (ex : PySem.W.Frag → Bool) (K : PySem.W.Frag) : Prop := He.SaysD fa fn K ∧ ex K = true
def hookM (n : Nat) (fa : List He.Fa) (fn : List He.DefD) (ex : PySem.W.Frag → Bool) : PySem.W.Hook where
  α := AlM
  obs := fun s => obsM n fa fn ex s.heap.get?
  val := fun _ => (He.valD fn, true)
  says := fun _ h => ∃ K : PySem.W.Frag, K.In h ∧ SaysM fa fn ex K
  of := fun _ _ e => ⟨_, He.frG_in, congrArg (fun z : AlM => z.1) e, congrArg (fun z : AlM => z.2) e⟩
  keeps := fun _ _ _ ⟨K, hK, c⟩ k => ⟨K, PySem.W.Frag.In.keeps hK k, c⟩
theorem obsM_eq {n : Nat} {fa : List He.Fa} {fn : List He.DefD} {ex : PySem.W.Frag → Bool} {g : Addr → Option Obj} {s : Shared} (h : ∀ a, g a = s.heap.get? a) : obsM n fa fn ex g = (hookM n fa fn ex).obs s := by
  have e : g = s.heap.get? := funext h
  rw [e] <;> rfl
theorem kept_of {h : Heap} (X : K.In h) (G : h.Ns mainGlobals mg) {x : Str} {ps : List Str} {st : Stmt} {k : Nat} {sp : Sp}
    (hd : ∃ fd, FnP K x st (He.ga K x) fd) (hg : (He.Fa.glo x).ok K = true)
    (hb : ∀ (kV doc pm : Value) (an : Option Addr) (cdv ct : Value) (us : List Value), us.length = ps.length → bindArgs (PySem.W.fnOf x x (defArgs st) (defBody st) (defScope st) .none kV doc pm an cdv ct) ⟨us, []⟩ = pure (ps.zip us))
    (ok : ∀ f fd, FnP K x st f fd → FnOk P w K mg base CX0 k f fd ps sp) : Kept P w K mg base k x ps sp := by
  obtain ⟨fd, F⟩ := hd
  exact ⟨_, fd, ok _ fd F, He.glo_ok X G hg, F.kp, F.bindsN hb⟩
end
section
variable {X : Cx}
theorem pe_d {k : Nat} {x : Str} {ps : List Str} {sp : Sp} {e : Expr} {es : List Expr} {t : TA} {p pos : Pos} (D : Kept X.prog X.w X.K X.mg X.base k x ps sp) (hr : Room k X.A) (hg : Gl X x) (ha : PA X (e :: es) t)
    (hdb : (x == ("__debug__" : Str)) = false := by decide) (he : starEach (e :: es) X.env = (false, eval e X.env) :: starEach es X.env := by rfl) (hpl : (backTo pos (starEach es X.env)).any (·.1) = false := by rfl) :
    PE X (.Call (.Name x p) (e :: es) [] pos) (tCall sp [] E0 t) := by
  obtain ⟨f, fd, F, g, kp, b⟩ := D
  exact pe_call F hr hg g kp b .nil pass0 ha hdb he hpl
theorem pe_d0 {k : Nat} {x : Str} {ps : List Str} {sp : Sp} {p pos : Pos} (D : Kept X.prog X.w X.K X.mg X.base k x ps sp) (hr : Room k X.A) (hg : Gl X x) (hdb : (x == ("__debug__" : Str)) = false := by decide) :
    PE X (.Call (.Name x p) [] [] pos) (tCall sp [] E0 tNil) := by
  obtain ⟨f, fd, F, g, kp, b⟩ := D
  exact pe_call0 F hr hg g kp b .nil pass0 hdb
/-- a text of the module; an object of the module -/
theorem pe_gs {x z : Str} {pos : Pos} (h : ∃ t, X.mg x = some (.str z t)) (hg : Gl X x) (hd : (x == ("__debug__" : Str)) = false := by decide) : PE X (.Name x pos) (tC (.str z)) := by
  obtain ⟨t, h⟩ := h
  exact pe_glob hg h ⟨_, rfl⟩ hd
/-- xs[i] op= e reads xs[i] -/
theorem get_list : PGet X (rIxL X.K) := by
  intro pins s σ H o i ov iv Q I ro ri h
  obtain ⟨p, xs, i, z, rfl, rfl, hq, he, q⟩ := h
  cases ro
  obtain ⟨t, rfl⟩ := ri
  obtain ⟨its, r, pl, hz⟩ := I.list hq
  obtain ⟨j, h1, h2, h3, h4, h5⟩ := atI_get he
  obtain ⟨w, ew, rw'⟩ := r.get h2
  have hl := r.length
  have hn := line63
  have fin : EP X pins σ Q w s := ⟨z, H, I, rw', q⟩
  by_cases h0 : 0 ≤ i
  · have hj : i.toNat = j := by
      rw [seqIndex_of h0 h5] at h1
      exact Option.some.inj h1
    exact wpAny_mono (wpAny_getItem_list (Q := fun r s' => r = w ∧ EP X pins σ Q r s') pl.isList h0 (by omega) (by rw [hj]; simpa using ew) ⟨rfl, fin⟩) (fun _ _ q => q.2) (fun _ _ q => q)
  · have hj : (i + (its.toArray.size : Int)).toNat = j := by
      rw [seqIndex_neg (by omega) h4] at h1
      rw [List.size_toArray, ← hl]
      exact Option.some.inj h1
    exact wpAny_mono (wpAny_getItem_list_neg (Q := fun r s' => r = w ∧ EP X pins σ Q r s') pl.isList (by omega) (by rw [List.size_toArray] <;> omega) (by omega) (by rw [hj]; simpa using ew) ⟨rfl, fin⟩) (fun _ _ q => q.2) (fun _ _ q => q)
end

/-! ### the draws: [cells, place, rest, seed] at D -/
structure DrawAt (S D : Addr) (H : Hp) : Prop where
  ne : S ≠ D
  cells : ∃ cs : List Int, H S = some (.lst (cs.map V.int))
  at_ : ∃ i r c : Int, 0 ≤ i ∧ H D = some (.lst [.ref S, .int i, .int r, .int c])
/-- all else that is tracked stays -/
def Keep (D : Addr) (H H' : Hp) : Prop := ∀ b o, H b = some o → b ≠ D → H' b = some o
def Go (S D : Addr) (H H' : Hp) : Prop := DrawAt S D H' ∧ Keep D H H'
theorem Keep.refl {D : Addr} {H : Hp} : Keep D H H := fun _ _ h _ => h
theorem Keep.trans {D : Addr} {H H1 H2 : Hp} (a : Keep D H H1) (b : Keep D H1 H2) : Keep D H H2 := fun x o h n => b x o (a x o h n) n
theorem Go.trans {S D : Addr} {H H1 H2 : Hp} (a : Go S D H H1) (b : Go S D H1 H2) : Go S D H H2 := ⟨b.1, a.2.trans b.2⟩
theorem Keep.set {D : Addr} {H H' : Hp} {o : HO} (k : Keep D H H') : Keep D H (upd H' D o) := fun b u h n => by
  rw [upd_ne n]
  exact k b u h n
theorem DrawAt.set {S D : Addr} {H : Hp} (d : DrawAt S D H) {i r c : Int} (h : 0 ≤ i) : DrawAt S D (upd H D (.lst [.ref S, .int i, .int r, .int c])) :=
  ⟨d.ne, d.cells.imp fun cs h => by rw [upd_ne d.ne]; exact h, ⟨i, r, c, h, upd_same⟩⟩
theorem DrawAt.new {S D p : Addr} {H : Hp} {o : HO} (d : DrawAt S D H) (h : H p = none) : DrawAt S D (upd H p o) := by
  obtain ⟨cs, h1⟩ := d.cells
  obtain ⟨i, r, c, h0, h2⟩ := d.at_
  exact ⟨d.ne, ⟨cs, by rw [upd_ne (ne_of_none h1 h)]; exact h1⟩, ⟨i, r, c, h0, by rw [upd_ne (ne_of_none h2 h)]; exact h2⟩⟩
theorem Keep.new {D p : Addr} {H : Hp} {o : HO} (h : H p = none) : Keep D H (upd H p o) := fun b u e _ => by
  rw [upd_ne (ne_of_none e h)]
  exact e
theorem Go.new {S D p : Addr} {H : Hp} {o : HO} (d : DrawAt S D H) (h : H p = none) : Go S D H (upd H p o) := ⟨d.new h, Keep.new h⟩
theorem Go.same {S D : Addr} {H H' : Hp} (d : DrawAt S D H) (h : Same H H') : Go S D H H' := by
  obtain ⟨cs, h1⟩ := d.cells
  obtain ⟨i, r, c, h0, h2⟩ := d.at_
  exact ⟨⟨d.ne, ⟨cs, h _ _ h1⟩, ⟨i, r, c, h0, h _ _ h2⟩⟩, fun b o e _ => h b o e⟩
theorem Go.refl {S D : Addr} {H : Hp} (d : DrawAt S D H) : Go S D H H := ⟨d, Keep.refl⟩
/-- a fresh place stays fresh when looked at from behind -/
theorem DrawAt.free {S D p : Addr} {H : Hp} (d : DrawAt S D H) (h : H p = none) : p ≠ D ∧ p ≠ S := by
  obtain ⟨cs, h1⟩ := d.cells
  obtain ⟨i, r, c, h0, h2⟩ := d.at_
  exact ⟨(ne_of_none h2 h).symm, (ne_of_none h1 h).symm⟩
theorem Go.free {S D p : Addr} {H H' : Hp} (g : Go S D H H') (d : DrawAt S D H) (h : H' p = none) : H p = none := by
  cases q : H p with
  | none => rfl
  | some o =>
    by_cases e : p = D
    · exact absurd e (g.1.free h).1
    · rw [g.2 p o q e] at h
      cases h
def spDraw : Sp := fun vs H Q _ => ∃ (S D : Addr) (many : Int), vs = [.ref D, .int many] ∧ CDivW 0 many ∧ DrawAt S D H ∧ ∀ H' v, 0 ≤ v → v < many → Go S D H H' → Q (.int v) H'
end Mt
/-! ### sorted of tuples, any length; dict(pairs); tuple() with its object known -/
namespace SR
open PySem PySem.Spec PyProof.Rows L2
section
variable {prog : Program} {w : World} {A : Around} {s : Shared}
theorem sorts_single {v : Value} {as : List Addr} (r : Reads s.heap v (.tuple []) as) : PySem.W.SortsAt prog w A s (PySem.W.dataKind s.heap [.tuple []]) [v] := by
  have hal : PySem.W.AllAlike [PyData.tuple []] := fun d hd d' hd' => by
    rw [List.mem_singleton.mp hd, List.mem_singleton.mp hd']
    rfl
  refine ⟨fun u hu => ?_, tuples' true, fun E x y a b Q ha hb hq => ?_, fun h2 => absurd h2 (by simp)⟩
  · rw [List.mem_singleton.mp hu]
    exact ⟨_, PySem.W.dataKind_some hal List.mem_cons_self r⟩
  · obtain ⟨d, as1, hd, ra, rfl⟩ := PySem.W.dataKind_inv ha
    obtain ⟨d', as2, hd', rb, rfl⟩ := PySem.W.dataKind_inv hb
    rw [List.mem_singleton.mp hd] at ra hq
    rw [List.mem_singleton.mp hd'] at rb hq
    have hq' : Q (PySem.W.dataLt (.tuple []) (.tuple [])) s := hq
    rw [PySem.W.dataLt_tuple] at hq'
    cases ra with
    | @tuple l o xs n _ _ h1 h2 h3 h4 =>
      cases rb with
      | @tuple l' o' xs' n' _ _ k1 k2 k3 k4 =>
        have n1 : xs.toList = [] := by
          cases hx : xs.toList with
          | nil => rfl
          | cons z t => rw [hx] at h4; cases h4
        have n2 : xs'.toList = [] := by
          cases hx : xs'.toList with
          | nil => rfl
          | cons z t => rw [hx] at k4; cases k4
        refine PySem.W.kat_lt h1 h3 k1 k3 ?_
        rw [n1, n2]
        have e1 : xs.size = 0 := by rw [← Array.length_toList, n1]; rfl
        have e2 : xs'.size = 0 := by rw [← Array.length_toList, n2]; rfl
        show Q (decide (xs.size < xs'.size)) s
        rw [e1, e2]
        exact hq'
end
section
variable {X : Cx}
/-- what a list of tuples of data holds, when it can be sorted -/
def SrtOk (ds : List PyData) : Prop := PySem.W.AllAlike ds ∧ (PySem.W.Sortable ds ∨ ds = [.tuple []]) ∧ ∀ d ∈ ds, d.depth ≤ 8
def rSrt (K : PySem.W.Frag) : List V → Hp → VK → Prop := fun vs H Q => ∃ (a : Addr) (bs : List (V × PyData)), vs = [V.ref a] ∧ SqL K H a (bs.map (·.1)) ∧ (∀ b ∈ bs, Dp K H b.1 b.2) ∧ SrtOk (bs.map (·.2)) ∧
  ∀ (ys : List (V × PyData)) (p : Addr), ys.Perm bs → H p = none → Q (.ref p) (upd H p (.lst (ys.map (·.1))))
theorem each_vals {bs : List (V × PyData)} {us : List Value} (r : Vals (bs.map (·.1)) us) : PySem.W.EachIs (fun v (b : V × PyData) => RelV b.1 v) us bs := by
  induction bs generalizing us with
  | nil =>
    cases r
    exact .nil
  | cons b t ih =>
    cases r with
    | cons h r => exact .cons h (ih r)
theorem vals_each {bs : List (V × PyData)} {us : List Value} (e : PySem.W.EachIs (fun v (b : V × PyData) => RelV b.1 v) us bs) : Vals (bs.map (·.1)) us := by
  induction e with
  | nil => exact .nil
  | cons h t ih => exact .cons h ih
theorem each_reads {pins : List (Addr × Obj)} {σ : L2.St} {H : Hp} {s : Shared} (I : Inv X pins σ H s) {bs : List (V × PyData)} {us : List Value} (e : PySem.W.EachIs (fun v (b : V × PyData) => RelV b.1 v) us bs) (h : ∀ b ∈ bs, Dp X.K H b.1 b.2) :
    PySem.W.EachIs (fun v (b : V × PyData) => ∃ as, Reads s.heap v b.2 as) us bs := by
  induction e with
  | nil => exact .nil
  | @cons v b us bs r t ih => exact .cons (Dp.reads I b.2 b.1 v (h b List.mem_cons_self) r) (ih fun x hx => h x (List.mem_cons_of_mem _ hx))
theorem cr_srt (hu : X.A.units + 64 < cLine) : CallR X (.builtin "sorted") (rSrt X.K) := by
  intro pins s σ H vs us Q I r q
  obtain ⟨a, bs, rfl, hs, hd, ⟨hal, hk, hdep⟩, q⟩ := q
  rw [Vals.ref1 r]
  obtain ⟨its, rv, hl, hz⟩ := I.list hs
  rw [List.length_map] at hz
  have e := each_vals rv
  have er := each_reads I e hd
  have fin : ∀ out : List Value, out.length = bs.length → PySem.W.EachIs (fun v (b : V × PyData) => RelV b.1 v) out (bs.mergeSort (PySem.W.dataLe false (·.2))) → EP X pins σ Q (.ref (s.heap.objs.size + 1)) { s with heap := sortedAll s.heap its (List.toArray out) } := fun out ho1 ho2 => by
    obtain ⟨ep, he'⟩ := PyProof.Rows.sortedAll_at s.heap its out.toArray
    have hp : (bs.mergeSort (PySem.W.dataLe false (·.2))).Perm bs := List.mergeSort_perm _ _
    exact ⟨.ref _, upd H (s.heap.objs.size + 1) (.lst ((bs.mergeSort (PySem.W.dataLe false (·.2))).map (·.1))), I.laid (t' := s.toks) (fun _ _ => PyProof.Rows.sortedAll_old) (Nat.le_succ _)
      ⟨by rw [List.length_map, hp.length_eq]; exact hz, out, ep, vals_each ho2, he'⟩, rfl, q _ _ hp (I.hok.fresh (Nat.le_succ _))⟩
  rcases hk with hk | h1
  · exact PySem.W.sorted_data (bs := bs) (enc := (·.2)) (R := fun v b => RelV b.1 v) hl.isList e er hal hk hz (fun b hb => by
      have := hdep b.2 (List.mem_map.mpr ⟨b, hb, rfl⟩)
      omega) fin
  · have hlen : its.length = bs.length := e.length
    match its, bs, e, er, hlen, h1, fin, hl, hz with
    | [u], [b], e, er, _, h1, fin, hl, hz =>
      have hb : b.2 = .tuple [] := by
        have : [b.2] = [PyData.tuple []] := h1
        exact (List.cons.inj this).1
      obtain ⟨as, rd⟩ : ∃ as, Reads s.heap u (.tuple []) as := by
        cases er with
        | cons h _ =>
          rw [hb] at h
          exact h
      have rd' : Reads (PySem.W.sortingHeap (PySem.W.copyHeap s.heap [u]) (s.heap.objs.size + 1) [u]) u (.tuple []) as := PyProof.Rows.Reads.keeps (fun _ _ => PySem.W.sorting_copy_old) rd
      have er' : PySem.W.EachIs (fun v (b : V × PyData) => ∃ as, Reads (PySem.W.sortingHeap (PySem.W.copyHeap s.heap [u]) (s.heap.objs.size + 1) [u]) v b.2 as) [u] [b] := .cons ⟨as, by rw [hb]; exact rd'⟩ .nil
      refine PySem.W.sorted_vals (κ := PySem.W.dataKind (PySem.W.sortingHeap (PySem.W.copyHeap s.heap [u]) (s.heap.objs.size + 1) [u]) [.tuple []]) hl.isList (sorts_single (s := { s with heap := PySem.W.sortingHeap (PySem.W.copyHeap s.heap [u]) (s.heap.objs.size + 1) [u] }) rd') hz ?_
      refine fin _ (by rw [PySem.W.sortVals_length false rfl]; rfl) ?_
      have := PySem.W.sortVals_data (h' := PySem.W.sortingHeap (PySem.W.copyHeap s.heap [u]) (s.heap.objs.size + 1) [u]) false e er' hal
      rw [show List.map (fun x : V × PyData => x.2) [b] = [PyData.tuple []] from h1] at this
      exact this
    | [], [], _, _, _, h1, _, _, _ => exact absurd h1 (by simp)
    | [], _ :: _, _, _, hlen, _, _, _, _ => exact absurd hlen (by simp)
    | _ :: _, [], _, _, hlen, _, _, _, _ => exact absurd hlen (by simp)
    | [_], _ :: _ :: _, _, _, hlen, _, _, _, _ => exact absurd hlen (by simp)
    | _ :: _ :: _, [_], _, _, hlen, _, _, _, _ => exact absurd hlen (by simp)
    | _ :: _ :: _, _ :: _ :: _, _, _, _, h1, _, _, _ => exact absurd h1 (by simp)
/-- a tuple whose object is known, one without attributes of its own -/
def TupK (H : Hp) (a : Addr) (ys : List V) : Prop := ∃ o : Obj, H a = some (.frz o (.tup ys)) ∧ o.dict = none
theorem TupK.sqt {K : PySem.W.Frag} {H : Hp} {a : Addr} {ys : List V} (h : TupK H a ys) : SqT K H a ys := let ⟨o, h, _⟩ := h; .inl (.inr ⟨o, h⟩)
theorem cr_tupleK : CallR X (.type "tuple") (fun xs H Q => ∃ p ys, xs = [.ref p] ∧ SqL X.K H p ys ∧ ∀ l (o : Obj), H l = none → o.dict = none → Q (.ref l) (upd H l (.frz o (.tup ys)))) := by
  intro pins s σ H xs us Q I r h
  obtain ⟨p, ys, rfl, hq, q⟩ := h
  rw [Vals.ref1 r]
  obtain ⟨its, r', pl, hz⟩ := I.list hq
  have hlen := r'.length
  refine call_tuple_list pl.isList (fun h' kp => ?_) (by simp only [List.size_toArray] <;> omega)
  have I1 : Inv X pins σ H { s with heap := h' } := I.kept (t' := s.toks) kp
  have I2 : Inv X pins σ (upd H h'.objs.size (.frz { cls := .type "tuple", data := .seq its.toArray } (.tup ys))) { s with heap := h'.push { cls := .type "tuple", data := .seq its.toArray } } :=
    I1.laid (t' := s.toks) (fun b o e => Heap.get?_push_of_some _ e) (Nat.le_refl _) (show ObjOk X.prog X.w _ _ _ (.frz _ (.tup ys)) from ⟨Heap.get?_push_size _ rfl, hz, its, r', IsTup.new _ _⟩)
  exact ⟨.ref h'.objs.size, _, I2, rfl, q _ _ (I1.hok.fresh (Nat.le_refl _)) rfl⟩
def tTupK (t : TA) : TE := fun σ H Q => t σ H fun xs H1 => xs.length ≤ sizeLine ∧ ∀ p (o : Obj), H1 p = none → o.dict = none → Q (.ref p) (upd H1 p (.frz o (.tup xs)))
theorem pe_tupK {es : List Expr} {t : TA} {pos : Pos} {x1} (h : PA X es t) : PE X (.Tuple es x1 pos) (tTupK t) := by
  refine ⟨fun pins s σ H Q I hq => ?_⟩
  refine wpAny_Tuple_spliced (thn (h.run pos pins s σ H _ I hq) fun us s1 ⟨xs, H1, I1, r, z, q⟩ => ⟨by rw [← r.length]; exact z, ?_⟩)
  have hf : H1 s1.heap.objs.size = none := I1.hok.fresh (Nat.le_refl _)
  exact ⟨.ref s1.heap.objs.size, upd H1 s1.heap.objs.size (.frz { cls := .type "tuple", data := .seq us.toArray } (.tup xs)), I1.laid (t' := s1.toks) (fun b u e => Heap.get?_push_of_some _ e) (Nat.le_refl _)
    ⟨Heap.get?_push_size _ rfl, z, us, r, ⟨_, Heap.get?_push_size _ rfl, rfl, _, rfl⟩⟩, rfl, q _ _ hf rfl⟩
/-- dict(t): t a tuple of pairs of a text and an int -/
abbrev Ptr : Type := Addr × Str × Int
def rDictT (K : PySem.W.Frag) : List V → Hp → VK → Prop := fun vs H Q => ∃ (a : Addr) (ps : List Ptr), vs = [V.ref a] ∧ TupK H a (ps.map fun p => V.ref p.1) ∧ (∀ p ∈ ps, SqT K H p.1 [.str p.2.1, .int p.2.2]) ∧
  ∀ q, H q = none → Q (.ref q) (upd H q (.dK (mergeK [] (ps.map fun p => ((.inr p.2.1 : L2.Key), V.int p.2.2)))))
def PairV (h : Heap) (p : Ptr) (q : Value × Value) : Prop := PairAt h p.1 q.1 q.2 ∧ RelV (.str p.2.1) q.1 ∧ RelV (.int p.2.2) q.2
theorem pairs_ex {pins : List (Addr × Obj)} {σ : L2.St} {H : Hp} {s : Shared} (I : Inv X pins σ H s) : ∀ {ps : List Ptr}, (∀ p ∈ ps, SqT X.K H p.1 [.str p.2.1, .int p.2.2]) → ∃ qs : List (Value × Value), Paired (PairV s.heap) ps qs
  | [], _ => ⟨[], .nil⟩
  | p :: r, h => by
    obtain ⟨qs, hq⟩ := pairs_ex I (ps := r) fun x hx => h x (List.mem_cons_of_mem _ hx)
    obtain ⟨its, rv, pl, _⟩ := I.tuple (h p List.mem_cons_self)
    obtain ⟨u1, u2, rfl, r1, r2⟩ := Vals.two rv
    exact ⟨(u1, u2) :: qs, .cons ⟨.inl pl, r1, r2⟩ hq⟩
theorem cr_dictT (hcalm : X.calm = true) : CallR X (.type "dict") (rDictT X.K) := by
  intro pins s σ H vs us Q I r q
  obtain ⟨a, ps, rfl, ⟨o, ha, hod⟩, hp, q⟩ := q
  rw [Vals.ref1 r]
  obtain ⟨hoa, hz, its, rv, ⟨o', e1, e2, n, e3⟩⟩ := I.hok a _ ha
  rw [hoa] at e1
  cases e1
  obtain ⟨qs, hq⟩ := pairs_ex I hp
  have hl : ps.length = qs.length := Paired.length hq
  have hil := rv.length
  rw [List.length_map] at hil hz
  let Ts : Nat → Addr := fun j => (ps[j]?.map (·.1)).getD 0
  have hT : ∀ j p, ps[j]? = some p → Ts j = p.1 := fun j p e => by
    show (ps[j]?.map (·.1)).getD 0 = p.1
    rw [e]
    rfl
  have hitem : PairItems s.heap its.toArray Ts qs := by
    refine ⟨by rw [List.size_toArray]; omega, fun j k v e => ?_⟩
    have hj : j < ps.length := by
      have := (List.getElem?_eq_some_iff.mp e).1
      omega
    have ej : ps[j]? = some ps[j] := List.getElem?_eq_getElem hj
    obtain ⟨b, hb, h1, _, _⟩ := paired_get hq ej
    rw [e] at hb
    cases hb
    have em : (ps.map fun p => V.ref p.1)[j]? = some (V.ref ps[j].1) := by rw [List.getElem?_map, ej]; rfl
    obtain ⟨u, hu, ru⟩ := rv.get em
    cases ru
    exact ⟨by rw [List.getElem?_toArray, hT j _ ej]; exact hu, by rw [hT j _ ej]; exact h1⟩
  let kvs : List (L2.Key × Value) := (ps.zip qs).map fun z => (.inr z.1.2.1, z.2.2)
  have hkv : KV (ps.map fun p => ((.inr p.2.1 : L2.Key), V.int p.2.2)) kvs := by
    have go : ∀ {ps : List Ptr} {qs : List (Value × Value)}, Paired (PairV s.heap) ps qs → KV (ps.map fun p => ((.inr p.2.1 : L2.Key), V.int p.2.2)) ((ps.zip qs).map fun z => (.inr z.1.2.1, z.2.2)) := fun {ps qs} h => by
      induction h with
      | nil => exact .nil
      | cons h t ih => exact .cons ⟨rfl, h.2.2⟩ ih
    exact go hq
  have hhave : PairsHave (mixKind X.prog X.w) qs.length (PairRel qs) kvs := by
    refine ⟨by show ((ps.zip qs).map _).length = _; rw [List.length_map, List.length_zip]; omega, fun i key v e => ?_⟩
    have hj : i < ps.length := by
      have := (List.getElem?_eq_some_iff.mp e).1
      omega
    have ej : ps[i]? = some ps[i] := List.getElem?_eq_getElem hj
    obtain ⟨b, hb, _, h2, _⟩ := paired_get hq ej
    have e' : qs[i]? = some (key, v) := e
    rw [e'] at hb
    cases hb
    refine ⟨.inr ps[i].2.1, ?_, ?_⟩
    · show ((ps.zip qs).map _)[i]? = _
      rw [List.getElem?_map, show (ps.zip qs)[i]? = some (ps[i], (key, v)) from List.getElem?_zip_eq_some.mpr ⟨ej, e'⟩]
      rfl
    · obtain ⟨t, rfl⟩ := h2
      exact mixKind_str _ _ _ _
  refine call_dict_pairs (PairArg.tuple a its.toArray Ts qs) (I.ok.hd hcalm) ⟨⟨o, n, hoa, e2, hod, e3⟩, hitem⟩ hhave (by rw [← hl]; exact hz) fun h' tk hd' hk => ?_
  have hm : (s.heap.objs.size == sysModules) = false := beq_eq_false_iff_ne.mpr (Nat.ne_of_gt I.big)
  have rel := KV.merge hkv (.nil : KV [] [])
  exact ⟨.ref s.heap.objs.size, _, I.laid (t' := tk) (fun b u e => hk b u List.not_mem_nil e) (Nat.le_refl _) (dk_new (by
    have := length_mergeK (ps.map fun p => ((.inr p.2.1 : L2.Key), V.int p.2.2)) []
    rw [List.length_map] at this
    exact Nat.le_trans this (by show 0 + ps.length ≤ sizeLine; omega)) hm rel hd'), rfl, q _ (I.hok.fresh (Nat.le_refl _))⟩
end
end SR
namespace Mt
open PySem PySem.Spec PyProof.Rows L2
def topS (i : Nat) : Stmt := PySem.Challenge.pw_meantrace_k77_whole_latest.main.body.getD i (.Pass ⟨0, 0, 0, 0⟩)
abbrev s_longest : Stmt := topS 1
abbrev N_longest : List Str := ["nexts", "found", "_", "many", "fresh", "state", "targets", "target"]
theorem sc_longest : FnScope N_longest ["nexts"] (defScope s_longest) := ⟨rfl, rfl, rfl, by decide +kernel, rfl, by decide +kernel, by decide +kernel⟩
abbrev s_branches_along : Stmt := topS 3
abbrev N_branches_along : List Str := ["rows", "state", "blocks", "found", "block", "fitting", "branch"]
theorem sc_branches_along : FnScope N_branches_along ["rows", "state", "blocks"] (defScope s_branches_along) := ⟨rfl, rfl, rfl, by decide +kernel, rfl, by decide +kernel, by decide +kernel⟩
abbrev s_ring_along : Stmt := topS 4
abbrev N_ring_along : List Str := ["rows", "way", "ring", "there", "begin", "around"]
theorem sc_ring_along : FnScope N_ring_along ["rows", "way", "ring"] (defScope s_ring_along) := ⟨rfl, rfl, rfl, by decide +kernel, rfl, by decide +kernel, by decide +kernel⟩
abbrev s_ring_of : Stmt := topS 5
abbrev N_ring_of : List Str := ["picked", "state", "places", "blocks", "digits", "_", "at"]
theorem sc_ring_of : FnScope N_ring_of ["picked", "state"] (defScope s_ring_of) := ⟨rfl, rfl, rfl, by decide +kernel, rfl, by decide +kernel, by decide +kernel⟩
abbrev s_latest : Stmt := topS 7
abbrev N_latest : List Str := ["chain", "mark", "rows", "silent", "branch", "row", "ranks", "picked", "state"]
theorem sc_latest : FnScope N_latest ["chain", "mark"] (defScope s_latest) := ⟨rfl, rfl, rfl, by decide +kernel, rfl, by decide +kernel, by decide +kernel⟩
abbrev s_judge_ranks : Stmt := topS 8
abbrev N_judge_ranks : List Str := ["chain", "mark", "ranks", "rows", "rank", "row"]
theorem sc_judge_ranks : FnScope N_judge_ranks ["chain", "mark", "ranks"] (defScope s_judge_ranks) := ⟨rfl, rfl, rfl, by decide +kernel, rfl, by decide +kernel, by decide +kernel⟩
abbrev s_is_sure : Stmt := topS 9
abbrev N_is_sure : List Str := ["row", "mark", "ranks", "rank", "_", "shown", "target"]
theorem sc_is_sure : FnScope N_is_sure ["row", "mark", "ranks", "rank"] (defScope s_is_sure) := ⟨rfl, rfl, rfl, by decide +kernel, rfl, by decide +kernel, by decide +kernel⟩
abbrev s_judge_ring : Stmt := topS 10
abbrev N_judge_ring : List Str := ["chain", "mark", "paper", "way", "ring", "walked", "part", "branch"]
theorem sc_judge_ring : FnScope N_judge_ring ["chain", "mark", "paper"] (defScope s_judge_ring) := ⟨rfl, rfl, rfl, by decide +kernel, rfl, by decide +kernel, by decide +kernel⟩
abbrev s_walk : Stmt := topS 15
abbrev N_walk : List Str := ["chain", "tape", "ticks", "rows", "state", "read", "told", "_", "digits", "shown"]
theorem sc_walk : FnScope N_walk ["chain", "tape", "ticks"] (defScope s_walk) := ⟨rfl, rfl, rfl, by decide +kernel, rfl, by decide +kernel, by decide +kernel⟩
abbrev s_branch_at : Stmt := topS 16
abbrev N_branch_at : List Str := ["row", "tape", "at", "branch"]
theorem sc_branch_at : FnScope N_branch_at ["row", "tape", "at"] (defScope s_branch_at) := ⟨rfl, rfl, rfl, by decide +kernel, rfl, by decide +kernel, by decide +kernel⟩
abbrev s__law_begin : Stmt := topS 18
abbrev N__law_begin : List Str := ["script", "cell"]
theorem sc__law_begin : FnScope N__law_begin ["script"] (defScope s__law_begin) := ⟨rfl, rfl, rfl, by decide +kernel, rfl, by decide +kernel, by decide +kernel⟩
abbrev s__law_draw : Stmt := topS 19
abbrev N__law_draw : List Str := ["d", "many", "found", "size", "cell"]
theorem sc__law_draw : FnScope N__law_draw ["d", "many"] (defScope s__law_draw) := ⟨rfl, rfl, rfl, by decide +kernel, rfl, by decide +kernel, by decide +kernel⟩
abbrev s__law_pick : Stmt := topS 20
abbrev N__law_pick : List Str := ["d", "row"]
theorem sc__law_pick : FnScope N__law_pick ["d", "row"] (defScope s__law_pick) := ⟨rfl, rfl, rfl, by decide +kernel, rfl, by decide +kernel, by decide +kernel⟩
abbrev s__law_pop : Stmt := topS 21
abbrev N__law_pop : List Str := ["d", "row"]
theorem sc__law_pop : FnScope N__law_pop ["d", "row"] (defScope s__law_pop) := ⟨rfl, rfl, rfl, by decide +kernel, rfl, by decide +kernel, by decide +kernel⟩
abbrev s__law_rare : Stmt := topS 22
abbrev N__law_rare : List Str := ["d", "many"]
theorem sc__law_rare : FnScope N__law_rare ["d", "many"] (defScope s__law_rare) := ⟨rfl, rfl, rfl, by decide +kernel, rfl, by decide +kernel, by decide +kernel⟩
abbrev s__law_shuffled : Stmt := topS 23
abbrev N__law_shuffled : List Str := ["d", "row", "left", "found", "k"]
theorem sc__law_shuffled : FnScope N__law_shuffled ["d", "row"] (defScope s__law_shuffled) := ⟨rfl, rfl, rfl, by decide +kernel, rfl, by decide +kernel, by decide +kernel⟩
abbrev s__law_pool : Stmt := topS 24
abbrev N__law_pool : List Str := ["text"]
theorem sc__law_pool : FnScope N__law_pool [] (defScope s__law_pool) := ⟨rfl, rfl, rfl, by decide +kernel, rfl, by decide +kernel, by decide +kernel⟩
abbrev s__law_is_int : Stmt := topS 25
abbrev N__law_is_int : List Str := ["thing"]
theorem sc__law_is_int : FnScope N__law_is_int ["thing"] (defScope s__law_is_int) := ⟨rfl, rfl, rfl, by decide +kernel, rfl, by decide +kernel, by decide +kernel⟩
abbrev s__law_is_ints : Stmt := topS 26
abbrev N__law_is_ints : List Str := ["row", "part"]
theorem sc__law_is_ints : FnScope N__law_is_ints ["row"] (defScope s__law_is_ints) := ⟨rfl, rfl, rfl, by decide +kernel, rfl, by decide +kernel, by decide +kernel⟩
abbrev s__law_words : Stmt := topS 27
abbrev N__law_words : List Str := ["d", "base", "many", "words", "k", "at", "word", "digit"]
theorem sc__law_words : FnScope N__law_words ["d", "base", "many"] (defScope s__law_words) := ⟨rfl, rfl, rfl, by decide +kernel, rfl, by decide +kernel, by decide +kernel⟩
abbrev s__law_downhill : Stmt := topS 28
abbrev N__law_downhill : List Str := ["d", "base", "states", "mark", "other", "rows", "s", "row", "word"]
theorem sc__law_downhill : FnScope N__law_downhill ["d", "base", "states", "mark", "other"] (defScope s__law_downhill) := ⟨rfl, rfl, rfl, by decide +kernel, rfl, by decide +kernel, by decide +kernel⟩
abbrev s__law_turned : Stmt := topS 29
abbrev N__law_turned : List Str := ["d", "rows", "many", "order_now", "found", "s", "digits", "shown", "there"]
theorem sc__law_turned : FnScope N__law_turned ["d", "rows"] (defScope s__law_turned) := ⟨rfl, rfl, rfl, by decide +kernel, rfl, by decide +kernel, by decide +kernel⟩
abbrev s__law_wide_shown : Stmt := topS 30
abbrev N__law_wide_shown : List Str := ["d", "marks", "k"]
theorem sc__law_wide_shown : FnScope N__law_wide_shown ["d", "marks"] (defScope s__law_wide_shown) := ⟨rfl, rfl, rfl, by decide +kernel, rfl, by decide +kernel, by decide +kernel⟩
abbrev s__law_wide_chain : Stmt := topS 31
abbrev N__law_wide_chain : List Str := ["d", "base", "states", "marks", "rows", "s", "row", "word"]
theorem sc__law_wide_chain : FnScope N__law_wide_chain ["d", "base", "states", "marks"] (defScope s__law_wide_chain) := ⟨rfl, rfl, rfl, by decide +kernel, rfl, by decide +kernel, by decide +kernel⟩
abbrev s__law_silent_chain : Stmt := topS 32
abbrev N__law_silent_chain : List Str := ["d", "marks", "most", "base", "states", "rows", "s", "k", "branch"]
theorem sc__law_silent_chain : FnScope N__law_silent_chain ["d", "marks", "most"] (defScope s__law_silent_chain) := ⟨rfl, rfl, rfl, by decide +kernel, rfl, by decide +kernel, by decide +kernel⟩
abbrev s__law_longest : Stmt := topS 33
abbrev N__law_longest : List Str := ["chain", "mark", "many", "alive", "ranks", "step", "fresh", "s", "on", "branch"]
theorem sc__law_longest : FnScope N__law_longest ["chain", "mark"] (defScope s__law_longest) := ⟨rfl, rfl, rfl, by decide +kernel, rfl, by decide +kernel, by decide +kernel⟩
abbrev s__law_is_bool : Stmt := topS 34
abbrev N__law_is_bool : List Str := ["told", "due"]
theorem sc__law_is_bool : FnScope N__law_is_bool ["told", "due"] (defScope s__law_is_bool) := ⟨rfl, rfl, rfl, by decide +kernel, rfl, by decide +kernel, by decide +kernel⟩
abbrev s__law_is_blocks : Stmt := topS 35
abbrev N__law_is_blocks : List Str := ["row", "block"]
theorem sc__law_is_blocks : FnScope N__law_is_blocks ["row"] (defScope s__law_is_blocks) := ⟨rfl, rfl, rfl, by decide +kernel, rfl, by decide +kernel, by decide +kernel⟩
abbrev s__law_end : Stmt := topS 36
abbrev N__law_end : List Str := ["chain", "start", "blocks", "mark", "state", "block", "found", "branch"]
theorem sc__law_end : FnScope N__law_end ["chain", "start", "blocks", "mark"] (defScope s__law_end) := ⟨rfl, rfl, rfl, by decide +kernel, rfl, by decide +kernel, by decide +kernel⟩
abbrev s__law_is_silent : Stmt := topS 37
abbrev N__law_is_silent : List Str := ["chain", "mark", "way", "ring", "start", "tape", "block", "ticks_all", "told", "shown"]
theorem sc__law_is_silent : FnScope N__law_is_silent ["chain", "mark", "way", "ring"] (defScope s__law_is_silent) := ⟨rfl, rfl, rfl, by decide +kernel, rfl, by decide +kernel, by decide +kernel⟩
abbrev s__law_comes : Stmt := topS 38
abbrev N__law_comes : List Str := ["d", "chain", "mark", "rank", "tape", "k", "told", "shown"]
theorem sc__law_comes : FnScope N__law_comes ["d", "chain", "mark", "rank"] (defScope s__law_comes) := ⟨rfl, rfl, rfl, by decide +kernel, rfl, by decide +kernel, by decide +kernel⟩
abbrev s__law_asked : Stmt := topS 39
abbrev N__law_asked : List Str := ["d", "chain", "mark", "ranks", "told"]
theorem sc__law_asked : FnScope N__law_asked ["d", "chain", "mark"] (defScope s__law_asked) := ⟨rfl, rfl, rfl, by decide +kernel, rfl, by decide +kernel, by decide +kernel⟩
abbrev s_law : Stmt := topS 40
abbrev N_law : List Str := ["script", "d", "names", "marks", "k", "chain", "before", "mark"]
theorem sc_law : FnScope N_law ["script"] (defScope s_law) := ⟨rfl, rfl, rfl, by decide +kernel, rfl, by decide +kernel, by decide +kernel⟩
structure Txt (K : PySem.W.Frag) (mg : Str → Option Value) : Prop where
  b_int : mg "int" = none
  b_abs : mg "abs" = none
  b_len : mg "len" = none
  b_isinstance : mg "isinstance" = none
  b_bool : mg "bool" = none
  b_tuple : mg "tuple" = none
  b_list : mg "list" = none
  b_range : mg "range" = none
  b_all : mg "all" = none
  b_any : mg "any" = none
  b_sorted : mg "sorted" = none
  b_enumerate : mg "enumerate" = none
  b_zip : mg "zip" = none
  b_str : mg "str" = none
theorem upd_upd {H : Hp} {p : Addr} {a b : HO} : upd (upd H p a) p b = upd H p b := by
  funext x
  unfold upd
  split <;> rfl
theorem take_map_succ {α β : Type} {f : α → β} {l : List α} {i : Nat} {c : α} (h : l[i]? = some c) : (l.take i).map f ++ [f c] = (l.take (i + 1)).map f := by
  rw [List.take_add_one, h, List.map_append]
  rfl
theorem divW_of {n : Int} (h : 0 < n) (h2 : n < 2 ^ 64) : CDivW 0 n := wide_div h (b := 64) (by omega) (by decide) (by decide)
theorem getV {ns : List Int} {i : Nat} {x : V} (h : (ns.map V.int)[i]? = some x) : ∃ z, x = .int z ∧ ns[i]? = some z := by
  rw [List.getElem?_map] at h
  cases e : ns[i]? with
  | none =>
    rw [e] at h
    cases h
  | some z =>
    rw [e] at h
    exact ⟨z, (Option.some.inj h).symm, rfl⟩
def spBegin (K : PySem.W.Frag) : Sp := fun vs H Q _ => ∃ (a : Addr) (ns : List Int), vs = [.ref a] ∧ SqL K H a (ns.map V.int) ∧ ns.length ≤ 63 ∧ ∀ S D H', Same H H' → H D = none → DrawAt S D H' → Q (.ref D) H'
/-- a text or a list, what it holds -/
def Row (K : PySem.W.Frag) (H : Hp) (v : V) (xs : List V) : Prop := (∃ z : Str, v = .str z ∧ xs = z.cps.toList.map fun c => .str ⟨#[c]⟩) ∨ (∃ p, v = .ref p ∧ SqL K H p xs) ∨ ∃ p, v = .ref p ∧ SqT K H p xs
def spPick (K : PySem.W.Frag) : Sp := fun vs H Q _ => ∃ (S D : Addr) (r : V) (xs : List V), vs = [.ref D, r] ∧ DrawAt S D H ∧ (∀ H', Go S D H H' → Row K H' r xs) ∧ 0 < xs.length ∧ xs.length ≤ 100000 ∧ ∀ H' x, x ∈ xs → Go S D H H' → Q x H'

theorem same_new {H : Hp} {p : Addr} {o : HO} (h : H p = none) : Same H (upd H p o) := fun b x e => by
  rw [upd_ne (ne_of_none e h)]
  exact e
/-- a change at a place that H does not know -/
theorem same_mut {H H' : Hp} {p : Addr} {o : HO} (s : Same H H') (h : H p = none) : Same H (upd H' p o) := fun b u e => by
  rw [upd_ne (ne_of_none e h)]
  exact s b u e
theorem iteNT {A B : Prop} (h : B) : if (!true) = true then A else B := iteF h
theorem line5 {n : Nat} (h : n ≤ 100000) : n ≤ sizeLine := Nat.le_trans h (by decide)
theorem line6 {n : Nat} (h : n < 100000) : n < sizeLine := Nat.lt_of_lt_of_le h (by decide)
/-! ### data as it stands in the heap -/
def KeepT (H H' : Hp) : Prop := ∀ p xs, Rd H p (.tup xs) → Rd H' p (.tup xs)
theorem KeepT.of_same {H H' : Hp} (s : Same H H') : KeepT H H' := fun p xs h => by
  rcases h with h | ⟨o, h⟩
  · exact .inl (s _ _ h)
  · exact .inr ⟨o, s _ _ h⟩
theorem KeepT.trans {H H1 H2 : Hp} (a : KeepT H H1) (b : KeepT H1 H2) : KeepT H H2 := fun p xs h => b p xs (a p xs h)
mutual
def noL : PyData → Bool
  | .list _ => false
  | .dict _ => false
  | .tuple ds => noLs ds
  | _ => true
def noLs : List PyData → Bool
  | [] => true
  | d :: ds => noL d && noLs ds
end
theorem sqt_keep {K : PySem.W.Frag} {H H' : Hp} {a : Addr} {xs : List V} (k : KeepT H H') (h : SqT K H a xs) : SqT K H' a xs := by
  rcases h with h | h
  · exact .inl (k _ _ h)
  · exact .inr h
mutual
theorem dp_keep {K : PySem.W.Frag} {H H' : Hp} (k : KeepT H H') : ∀ (d : PyData) (v : V), noL d = true → Dp K H v d → Dp K H' v d
  | .none, _, _, h => by
    cases h
    exact .non
  | .bool b, _, _, h => by
    cases h
    exact .bl b
  | .int i, _, _, h => by
    cases h
    exact .int i
  | .str x, _, _, h => by
    cases h
    exact .str x
  | .list ds, _, n, _ => by
    have n2 : false = true := n
    cases n2
  | .dict ds, _, n, _ => by
    have n2 : false = true := n
    cases n2
  | .tuple ds, _, n, h => by
    cases h with
    | tup h1 h2 => exact .tup (sqt_keep k h1) (dpA_keep k ds _ n h2)
theorem dpA_keep {K : PySem.W.Frag} {H H' : Hp} (k : KeepT H H') : ∀ (ds : List PyData) (xs : List V), noLs ds = true → DpAll K H xs ds → DpAll K H' xs ds
  | [], _, _, h => by
    cases h
    exact .nil
  | d :: ds, _, n, h => by
    cases h with
    | cons h1 h2 =>
      have n2 : (noL d && noLs ds) = true := n
      rw [Bool.and_eq_true] at n2
      exact .cons (dp_keep k d _ n2.1 h1) (dpA_keep k ds _ n2.2 h2)
end
theorem dp_tup {K : PySem.W.Frag} {H : Hp} {v : V} {ds : List PyData} (h : Dp K H v (.tuple ds)) : ∃ a xs, v = .ref a ∧ SqT K H a xs ∧ DpAll K H xs ds := by
  cases h with
  | tup h1 h2 => exact ⟨_, _, rfl, h1, h2⟩
theorem dp_str {K : PySem.W.Frag} {H : Hp} {v : V} {z : Str} (h : Dp K H v (.str z)) : v = .str z := by
  cases h
  rfl
theorem dp_int {K : PySem.W.Frag} {H : Hp} {v : V} {z : Int} (h : Dp K H v (.int z)) : v = .int z := by
  cases h
  rfl
theorem dp_non {K : PySem.W.Frag} {H : Hp} {v : V} (h : Dp K H v .none) : v = .non := by
  cases h
  rfl
theorem dpA_nil {K : PySem.W.Frag} {H : Hp} {xs : List V} (h : DpAll K H xs []) : xs = [] := by
  cases h
  rfl
theorem dpA_cons {K : PySem.W.Frag} {H : Hp} {xs : List V} {d : PyData} {ds : List PyData} (h : DpAll K H xs (d :: ds)) : ∃ x r, xs = x :: r ∧ Dp K H x d ∧ DpAll K H r ds := by
  cases h with
  | cons h1 h2 => exact ⟨_, _, rfl, h1, h2⟩
theorem dpA_len {K : PySem.W.Frag} {H : Hp} : ∀ {ds : List PyData} {xs : List V}, DpAll K H xs ds → xs.length = ds.length
  | [], _, h => by rw [dpA_nil h]; rfl
  | d :: ds, _, h => by
    obtain ⟨x, r, rfl, _, h2⟩ := dpA_cons h
    rw [List.length_cons, List.length_cons, dpA_len h2]
theorem dpA_at {K : PySem.W.Frag} {H : Hp} : ∀ {ds : List PyData} {xs : List V} {i : Nat} {x : V}, DpAll K H xs ds → xs[i]? = some x → ∃ d, ds[i]? = some d ∧ Dp K H x d
  | [], _, i, x, h, e => by
    rw [dpA_nil h] at e
    simp at e
  | d :: ds, _, 0, x, h, e => by
    obtain ⟨y, r, rfl, h1, h2⟩ := dpA_cons h
    have e2 : y = x := Option.some.inj e
    subst e2
    exact ⟨d, rfl, h1⟩
  | d :: ds, _, i + 1, x, h, e => by
    obtain ⟨y, r, rfl, h1, h2⟩ := dpA_cons h
    obtain ⟨d', h3, h4⟩ := dpA_at (i := i) (x := x) h2 (by simpa using e)
    exact ⟨d', by simpa using h3, h4⟩
theorem noLs_map {α : Type} (f : α → PyData) : ∀ l : List α, (∀ x ∈ l, noL (f x) = true) → noLs (l.map f) = true
  | [], _ => rfl
  | x :: r, h => by
    show (noL (f x) && noLs (r.map f)) = true
    rw [h x List.mem_cons_self, noLs_map f r fun y hy => h y (List.mem_cons_of_mem _ hy)]
    rfl
theorem keepT_new {H : Hp} {L : Addr} {o : HO} (h : H L = none) : KeepT H (upd H L o) := KeepT.of_same (same_new h)
theorem ixT {X : Cx} {K : PySem.W.Frag} (h : X.K = K) : IxR X (rIxT K) := h ▸ ix_tup
theorem isiT {X : Cx} {K : PySem.W.Frag} (h : X.K = K) : CallR X (.builtin "isinstance") (rIsi K) := h ▸ call_isi
theorem map_at {α : Type} {f : α → PyData} {l : List α} {i : Nat} {d : PyData} (h : (l.map f)[i]? = some d) : ∃ x, l[i]? = some x ∧ f x = d := by
  rw [List.getElem?_map] at h
  cases e : l[i]? with
  | none =>
    rw [e] at h
    cases h
  | some x =>
    rw [e] at h
    exact ⟨x, rfl, Option.some.inj h⟩
theorem dpA_snoc {K : PySem.W.Frag} {H : Hp} : ∀ {ds : List PyData} {xs : List V} {x : V} {d : PyData}, DpAll K H xs ds → Dp K H x d → DpAll K H (xs ++ [x]) (ds ++ [d])
  | [], _, _, _, h, hx => by
    rw [dpA_nil h]
    exact .cons hx .nil
  | d0 :: ds, _, _, _, h, hx => by
    obtain ⟨y, r, rfl, h1, h2⟩ := dpA_cons h
    exact .cons h1 (dpA_snoc h2 hx)
theorem sqt_ty {K : PySem.W.Frag} {H : Hp} {a : Addr} {xs : List V} (h : SqT K H a xs) : TyX K H (.ref a) (.type "tuple") := by
  rcases h with (h | ⟨o, h⟩) | ⟨o, its, n, hk, hc, _⟩
  · exact .base (.tup h)
  · exact .fTuple h
  · exact .kTuple hk hc
theorem same_l {K : PySem.W.Frag} {H H' : Hp} {a : Addr} {xs : List V} (e : Same H H') (h : SqL K H a xs) : SqL K H' a xs := e.seq h
theorem same_t {K : PySem.W.Frag} {H H' : Hp} {a : Addr} {xs : List V} (e : Same H H') (h : SqT K H a xs) : SqT K H' a xs := by
  rcases h with (h | ⟨o, h⟩) | h
  · exact .inl (.inl (e _ _ h))
  · exact .inl (.inr ⟨o, e _ _ h⟩)
  · exact .inr h
theorem Paired.at {α β : Type} {R : α → β → Prop} : ∀ {xs : List α} {ys : List β} {i : Nat} {x : α}, Paired R xs ys → xs[i]? = some x → ∃ y, ys[i]? = some y ∧ R x y
  | _, _, _, _, .nil, e => by simp at e
  | _, _, 0, _, .cons r _, e => by
    have e : _ = _ := Option.some.inj e
    subst e
    exact ⟨_, rfl, r⟩
  | _, _, i + 1, x, .cons _ t, e => by
    obtain ⟨y, h1, h2⟩ := Paired.at (i := i) (x := x) t (by simpa using e)
    exact ⟨y, by simpa using h1, h2⟩
/-! ### promises -/
def spIsInt : Sp := fun vs H Q _ => ∃ i : Int, vs = [.int i] ∧ Q (.bl true) H
def spIsInts (K : PySem.W.Frag) : Sp := fun vs H Q _ => ∃ (p : Addr) (ns : List Int), vs = [.ref p] ∧ SqT K H p (ns.map V.int) ∧ ns.length ≤ 100 ∧ ∀ H', Same H H' → Q (.bl true) H'
def spLaw (K : PySem.W.Frag) : Sp := fun vs H Q _ => ∃ (a : Addr) (ns : List Int), vs = [.ref a] ∧ SqL K H a (ns.map V.int) ∧ ns.length ≤ 63 ∧ ∀ H', Q (.bl true) H'
theorem all_true {α : Type} (l : List α) : (l.map fun _ => true).all id = true := by
  rw [List.all_map]
  exact List.all_eq_true.mpr fun _ _ => rfl
def NT (o : HO) : Prop := (∀ xs, o ≠ .tup xs) ∧ ∀ ob u, o ≠ .frz ob u
theorem nt_lst (l : List V) : NT (.lst l) := ⟨fun _ e => (nomatch e), fun _ _ e => (nomatch e)⟩
theorem nt_dk (l : List (Key × V)) : NT (.dK l) := ⟨fun _ e => (nomatch e), fun _ _ e => (nomatch e)⟩
theorem DrawAt.upd {S D L : Addr} {H : Hp} {o : HO} (d : DrawAt S D H) (n1 : L ≠ D) (n2 : L ≠ S) : DrawAt S D (upd H L o) := by
  obtain ⟨cs, h1⟩ := d.cells
  obtain ⟨i, r, c, h0, h2⟩ := d.at_
  exact ⟨d.ne, ⟨cs, by rw [upd_ne n2.symm]; exact h1⟩, ⟨i, r, c, h0, by rw [upd_ne n1.symm]; exact h2⟩⟩
/-- the draws, and one thing F that may change -/
structure StF (S D F : Addr) (H : Hp) : Prop where
  dr : DrawAt S D H
  nS : F ≠ S
  fl : ∃ o, H F = some o ∧ NT o
def GoL (S D F : Addr) (H H' : Hp) : Prop := StF S D F H' ∧ ∀ b o, H b = some o → b ≠ D → b ≠ F → H' b = some o
section
variable {S D F L p : Addr} {H H1 H2 H' : Hp} {o : HO} {K : PySem.W.Frag}
theorem StF.of_draw (d : DrawAt S D H) : StF S D D H := ⟨d, d.ne.symm, let ⟨_, _, _, _, h⟩ := d.at_; ⟨_, h, nt_lst _⟩⟩
theorem StF.free (st : StF S D F H) (h : H p = none) : p ≠ D ∧ p ≠ S ∧ p ≠ F := by
  obtain ⟨o, hF, _⟩ := st.fl
  exact ⟨(st.dr.free h).1, (st.dr.free h).2, (ne_of_none hF h).symm⟩
theorem GoL.refl (st : StF S D F H) : GoL S D F H H := ⟨st, fun _ _ h _ _ => h⟩
theorem GoL.trans (a : GoL S D F H H1) (b : GoL S D F H1 H2) : GoL S D F H H2 := ⟨b.1, fun x o h n m => b.2 x o (a.2 x o h n m) n m⟩
theorem GoL.of_go (st : StF S D F H) (g : Go S D H H') : GoL S D F H H' := by
  refine ⟨⟨g.1, st.nS, ?_⟩, fun b o h n _ => g.2 b o h n⟩
  obtain ⟨o, hF, nt⟩ := st.fl
  by_cases e : F = D
  · rw [e]
    obtain ⟨_, _, _, _, h⟩ := g.1.at_
    exact ⟨_, h, nt_lst _⟩
  · exact ⟨o, g.2 F _ hF e, nt⟩
theorem GoL.to_go (g : GoL S D D H H') : Go S D H H' := ⟨g.1.dr, fun b o h n => g.2 b o h n n⟩
theorem GoL.mut (st : StF S D F H) (g : GoL S D F H H') (h : H L = none) : GoL S D F H (upd H' L o) := by
  obtain ⟨n1, n2, n3⟩ := st.free h
  obtain ⟨u, hF, nt⟩ := g.1.fl
  exact ⟨⟨g.1.dr.upd n1 n2, st.nS, ⟨u, by rw [upd_ne n3.symm]; exact hF, nt⟩⟩, fun b v hb m1 m2 => by
    rw [upd_ne (ne_of_none hb h)]
    exact g.2 b v hb m1 m2⟩
theorem GoL.new (st : StF S D F H) (h : H p = none) : GoL S D F H (upd H p o) := GoL.mut st (GoL.refl st) h
theorem GoL.setF (nD : F ≠ D) (nt : NT o) (g : GoL S D F H H') : GoL S D F H (upd H' F o) :=
  ⟨⟨g.1.dr.upd nD g.1.nS, g.1.nS, ⟨o, upd_same, nt⟩⟩, fun b v hb m1 m2 => by
    rw [upd_ne m2]
    exact g.2 b v hb m1 m2⟩
theorem GoL.back (st : StF S D F H) (g : GoL S D F H H') (h : H' p = none) : H p = none := by
  cases q : H p with
  | none => rfl
  | some u =>
    obtain ⟨n1, n2, n3⟩ := g.1.free h
    rw [g.2 p u q n1 n3] at h
    cases h
theorem nt_not {xs : List V} (nt : NT o) (h : H p = some o) (r : Rd H L (.tup xs)) : L ≠ p := fun e => by
  subst e
  rcases r with r | ⟨ob, r⟩
  · rw [h] at r
    exact nt.1 _ (Option.some.inj r)
  · rw [h] at r
    exact nt.2 _ _ (Option.some.inj r)
theorem GoL.keepT (st : StF S D F H) (g : GoL S D F H H') : KeepT H H' := fun p xs r => by
  obtain ⟨_, _, _, _, hD⟩ := st.dr.at_
  obtain ⟨o, hF, nt⟩ := st.fl
  have n1 := nt_not (nt_lst _) hD r
  have n2 := nt_not nt hF r
  rcases r with r | ⟨o, r⟩
  · exact .inl (g.2 _ _ r n1 n2)
  · exact .inr ⟨o, g.2 _ _ r n1 n2⟩
theorem Go.keepT (d : DrawAt S D H) (g : Go S D H H') : KeepT H H' := GoL.keepT (StF.of_draw d) (GoL.of_go (StF.of_draw d) g)
theorem keepT_nt {o2 : HO} (nt : NT o2) (h : H L = some o2) : KeepT H (upd H L o) := fun p xs r => by
  have n := nt_not nt h r
  rcases r with r | ⟨o, r⟩
  · exact .inl (by rw [upd_ne n]; exact r)
  · exact .inr ⟨o, by rw [upd_ne n]; exact r⟩
theorem noLs_of {α : Type} {f : α → PyData} (h : ∀ a, noL (f a) = true) (l : List α) : noLs (l.map f) = true := noLs_map f l fun a _ => h a
end
/-- a list that is being filled -/
structure BL (K : PySem.W.Frag) (S D F L : Addr) (H0 H : Hp) {α : Type} (f : α → PyData) (as : List α) : Prop where
  g : GoL S D F H0 H
  l : ∃ zs, H L = some (.lst zs) ∧ DpAll K H zs (as.map f)
section
variable {S D F L : Addr} {H0 H H1 : Hp} {K : PySem.W.Frag} {α : Type} {f : α → PyData} {as : List α}
theorem BL.nil (st : StF S D F H0) (h : H0 L = none) : BL K S D F L H0 (upd H0 L (.lst [])) f [] := ⟨GoL.new st h, [], upd_same, .nil⟩
theorem BL.go (st : StF S D F H0) (hL : H0 L = none) (hn : ∀ a, noL (f a) = true) (b : BL K S D F L H0 H f as) (g : GoL S D F H H1) : BL K S D F L H0 H1 f as := by
  obtain ⟨zs, h1, h2⟩ := b.l
  obtain ⟨n1, n2, n3⟩ := st.free hL
  exact ⟨b.g.trans g, zs, g.2 _ _ h1 n1 n3, dpA_keep (GoL.keepT b.g.1 g) _ _ (noLs_of hn as) h2⟩
theorem BL.add (st : StF S D F H0) (hL : H0 L = none) (hn : ∀ a, noL (f a) = true) {a : α} {x : V} {zs : List V} (g : GoL S D F H0 H) (h1 : H L = some (.lst zs)) (h2 : DpAll K H zs (as.map f)) (hx : Dp K H x (f a)) :
    BL K S D F L H0 (upd H L (.lst (zs ++ [x]))) f (as ++ [a]) := by
  have k := keepT_nt (o := .lst (zs ++ [x])) (nt_lst _) h1
  refine ⟨GoL.mut st g hL, zs ++ [x], upd_same, ?_⟩
  rw [List.map_append]
  exact dpA_snoc (dpA_keep k _ _ (noLs_of hn as) h2) (dp_keep k _ _ (hn a) hx)
theorem BL.len (b : BL K S D F L H0 H f as) : ∃ zs, H L = some (.lst zs) ∧ DpAll K H zs (as.map f) ∧ zs.length = as.length := by
  obtain ⟨zs, h1, h2⟩ := b.l
  exact ⟨zs, h1, h2, by have := dpA_len h2; rw [List.length_map] at this; exact this⟩
theorem GoL.drop {H' : Hp} (g : GoL S D F H H') (h : H F = none) : Go S D H H' := ⟨g.1.dr, fun b o hb n => g.2 b o hb n (ne_of_none hb h)⟩
end
theorem snoc_str (l : List Str) (z : Str) : l.map V.str ++ [V.str z] = (l ++ [z]).map V.str := by
  rw [List.map_append]
  rfl
theorem int_noL (p : Int) : noL (.int p) = true := rfl
theorem str_noL (p : Str) : noL (.str p) = true := rfl
/-! ### promises of the small draws -/
def spPop : Sp := fun vs H Q _ => ∃ (S D p : Addr) (xs : List V), vs = [.ref D, .ref p] ∧ DrawAt S D H ∧ p ≠ D ∧ H p = some (.lst xs) ∧ 0 < xs.length ∧ xs.length ≤ 1000 ∧ ∀ (H1 : Hp) (j : Nat) (x : V), Go S D H H1 → xs[j]? = some x → Q x (upd H1 p (.lst (xs.eraseIdx j)))
def spRare : Sp := fun vs H Q _ => ∃ (S D : Addr) (m : Int), vs = [.ref D, .int m] ∧ 0 < m ∧ m < 1000 ∧ DrawAt S D H ∧ ∀ H' b, Go S D H H' → Q (.bl b) H'
def spShuf (K : PySem.W.Frag) : Sp := fun vs H Q _ => ∃ (S D p : Addr) (xs : List V), vs = [.ref D, .ref p] ∧ DrawAt S D H ∧ SqL K H p xs ∧ xs.length ≤ 1000 ∧
  ∀ (H' : Hp) (q : Addr) (ys : List V), Go S D H H' → H q = none → H' q = some (.lst ys) → ys.length = xs.length → (∀ y ∈ ys, y ∈ xs) → Q (.ref q) H'
abbrev PA : Str := "a b2 sum left r k0 carry z9z full tail n m8 aa busy cnt p t4 even2 ab1 head u v2 w lowest high mid "
abbrev PB : Str := "s t e f g h i j k x y q7 deep turn gate l5 next1 o c0 d two zz1 near far9 last ring2 "
abbrev PC : Str := "aaaaaaa8 b c1 top2 net3 row col7 v"
def POOL : List Str := Txt.split (PA ++ PB ++ PC) " "
theorem pool_len : POOL.length = 60 := by decide +kernel
def spPool : Sp := fun vs H Q _ => vs = [] ∧ ∀ p, H p = none → Q (.ref p) (upd H p (.lst (POOL.map V.str)))
section
variable {P : Program} {w : World} {K : PySem.W.Frag} {mg : Str → Option Value} {base : Heap}
theorem ok__law_draw (T : Txt K mg) {f : Addr} {fd : FuncData} (F : FnP K "_law_draw" s__law_draw f fd) : FnOk P w K mg base CX0 1 f fd ["d", "many"] spDraw := by
  refine F.ok sc__law_draw (fun vs H Q E h => ?_) (fun cdv A outer s H vs Q E hr h => ?_)
  · obtain ⟨S, D, m, rfl, _⟩ := h
    rfl
  · obtain ⟨S, D, m, rfl, hm, d, q⟩ := h
    obtain ⟨cs, hS⟩ := id d.cells
    obtain ⟨i, r, c, h0, hD⟩ := id d.at_
    have hm0 : 0 < m := hm.1
    refine ⟨_, PSs.nox (pss_cons (ps_if (pt_cmpR op_gt (pe_ix ix_list (pv 0) pe_int (fun _ _ => rfl)) pe_int (nomark _)) (pss_cons (ps_set (i := 2) sc__law_draw.nd rfl (Or.inl rfl) (pe_ix ix_list (pv 0) pe_int (fun _ _ => rfl)))
      (pss_cons (ps_asg (pe_op op_fdivW (pv 2) (pv 1)) (pg_sub (pv 0) pe_int set_list))
      (pss_one (ps_ret (pe_op op_mod (pe_callTy call_int1 (by rfl) T.b_int (by decide +kernel) (pa_cons (pv 2) pa_nil)) (pv 1)))))) pss_nil)
      (pss_cons (ps_set (i := 3) sc__law_draw.nd rfl (Or.inl rfl) pe_int)
      (Evl.pss_cut (ps_if (pt_cmpR op_lt (pe_ix ix_list (pv 0) pe_int (fun _ _ => rfl)) (pe_callB call_len (by rfl) T.b_len (by decide +kernel) (pa_cons (pe_ix ix_list (pv 0) pe_int (fun _ _ => rfl)) pa_nil)) (nomark _)) (pss_cons (ps_set (i := 4) sc__law_draw.nd rfl (Or.inl rfl) (pe_ix ix_list (pe_ix ix_list (pv 0) pe_int (fun _ _ => rfl)) (pe_ix ix_list (pv 0) pe_int (fun _ _ => rfl)) (fun _ _ => rfl)))
      (pss_one (ps_set (i := 3) sc__law_draw.nd rfl (Or.inl rfl) (pe_op op_add (pe_op op_mul pe_int (pe_callB call_abs (by rfl) T.b_abs (by decide +kernel) (pa_cons (pv 4) pa_nil))) (pe_callTy call_int1 (by rfl) T.b_int (by decide +kernel) (pa_cons (pe_cmpR op_lt (pv 4) pe_int (nomark _)) pa_nil)))))) pss_nil)
      (pss_cons (ps_augS (pv 0) pe_int get_list pe_int ip_add set_list)
      (pss_cons (ps_if (pt_cmpR op_ge (pv 3) (pe_op op_mul pe_int (pe_op op_pow pe_int pe_int)) (nomark _)) (pss_cons (ps_set (i := 2) sc__law_draw.nd rfl (Or.inl rfl) (pe_op op_mod (pe_callTy call_int1 (by rfl) T.b_int (by decide +kernel) (pa_cons (pe_op op_fdivW (pv 3) pe_int) pa_nil)) (pe_op op_shl pe_int pe_int)))
      (pss_cons (ps_asg (pe_op op_fdivW (pv 2) (pv 1)) (pg_sub (pv 0) pe_int set_list))
      (pss_one (ps_ret (pe_op op_mod (pe_callTy call_int1 (by rfl) T.b_int (by decide +kernel) (pa_cons (pv 2) pa_nil)) (pv 1)))))) pss_nil)
      (pss_cons (ps_asg (pe_op op_mod (pe_callTy call_int1 (by rfl) T.b_int (by decide +kernel) (pa_cons (pe_op op_add (pe_op op_add (pe_op op_add (pe_op op_mul (pe_ix ix_list (pv 0) pe_int (fun _ _ => rfl)) pe_int) (pe_op op_mul (pe_op op_mod (pe_callTy call_int1 (by rfl) T.b_int (by decide +kernel) (pa_cons (pv 3) pa_nil)) pe_int) pe_int)) (pe_op op_mul (pe_ix ix_list (pv 0) pe_int (fun _ _ => rfl)) pe_int)) pe_int) pa_nil)) pe_int) (pg_sub (pv 0) pe_int set_list))
      (pss_one (ps_ret (pe_op op_mod (pe_callTy call_int1 (by rfl) T.b_int (by decide +kernel) (pa_cons (pe_op op_fdivW (pe_ix ix_list (pv 0) pe_int (fun _ _ => rfl)) pe_int) pa_nil)) (pv 1)))))))))), ?_⟩
    refine ⟨_, rfl, D, _, _, _, rfl, rfl, SqL.of hD, atI_nat (j := 2) rfl, _, _, rfl, rfl, _, rfl, ?_⟩
    refine ite2 (fun e => ?_) (fun e => ?_)
    · refine ⟨_, rfl, D, _, _, _, rfl, rfl, SqL.of hD, atI_nat (j := 2) rfl, ?_⟩
      refine ⟨_, rfl, _, rfl, _, _, rfl, rfl, hm, _, rfl, D, _, _, 2, rfl, rfl, hD, rfl, ?_⟩
      refine ⟨_, rfl, .inl ⟨_, rfl, _, rfl, _, _, rfl, rfl, hm0, ?_⟩⟩
      refine q _ _ (Int.emod_nonneg _ (by omega)) (Int.emod_lt_of_pos _ hm0) ⟨d.set h0, Keep.refl.set⟩
    · refine ⟨fun σ' H' => ∃ (z : Int) (x : Option V), σ' = [some (.ref D), some (.int m), none, some (.int z), x] ∧ H' = H, ?_, ?_⟩
      · refine ⟨_, rfl, D, _, _, _, rfl, rfl, SqL.of hD, atI_nat (j := 1) rfl, ?_⟩
        refine ⟨_, rfl, D, _, _, _, rfl, rfl, SqL.of hD, atI_nat (j := 0) rfl, _, _, rfl, .inl ⟨_, SqL.of hS, rfl⟩, _, _, rfl, rfl, _, rfl, ?_⟩
        refine ite2 (fun e1 => ?_) (fun e1 => ?_)
        · have e2 : i < ((cs.map V.int).length : Int) := of_decide_eq_true e1
          have e3 : i.toNat < (cs.map V.int).length := by omega
          have e4 : i.toNat < cs.length := by rw [List.length_map] at e3; exact e3
          have e5 : (cs.map V.int)[i.toNat]? = some (.int cs[i.toNat]) := by
            rw [List.getElem?_map, List.getElem?_eq_getElem e4]
            rfl
          have e6 : atI (cs.map V.int) i = some (.int cs[i.toNat]) := by
            have := atI_nat (xs := cs.map V.int) e5
            rw [show ((i.toNat : Nat) : Int) = i by omega] at this
            exact this
          refine ⟨_, rfl, D, _, _, _, rfl, rfl, SqL.of hD, atI_nat (j := 0) rfl, ?_⟩
          refine ⟨_, rfl, D, _, _, _, rfl, rfl, SqL.of hD, atI_nat (j := 1) rfl, ?_⟩
          refine ⟨S, _, _, _, rfl, rfl, SqL.of hS, e6, ?_⟩
          refine ⟨_, rfl, _, rfl, _, _, rfl, rfl, .inl ⟨by decide, by decide⟩, ?_⟩
          refine ⟨_, rfl, _, _, rfl, rfl, .inr ⟨_, rfl, _, _, rfl, rfl, ?_⟩⟩
          exact ⟨_, _, rfl, rfl⟩
        · exact ⟨_, _, rfl, rfl⟩
      · rintro σ' H' ⟨z, x, rfl, rfl⟩
        refine ⟨_, rfl, D, _, _, _, rfl, rfl, SqL.of hD, atI_nat (j := 1) rfl, ?_⟩
        refine ⟨_, _, rfl, rfl, D, _, _, 1, rfl, rfl, hD, rfl, ?_⟩
        have hD1 : (upd H' D (.lst [.ref S, .int (i + 1), .int r, .int c])) D = some (.lst [.ref S, .int (i + 1), .int r, .int c]) := upd_same
        have d1 : DrawAt S D (upd H' D (.lst [.ref S, .int (i + 1), .int r, .int c])) := d.set (by omega)
        refine ⟨_, rfl, _, _, rfl, rfl, ⟨by decide, by decide, by decide⟩, _, _, rfl, rfl, .inl ⟨by decide, by decide⟩, _, _, rfl, rfl, _, rfl, ?_⟩
        refine ite2 (fun e1 => ?_) (fun e1 => ?_)
        · refine ⟨_, rfl, _, _, rfl, rfl, ⟨by decide, by decide⟩, .inl ⟨_, rfl, _, _, rfl, rfl, ⟨by decide, by decide, by decide⟩, ?_⟩⟩
          refine ⟨_, _, rfl, rfl, ?_, ?_⟩
          · show (0 : Int) < 1 * 2 ^ (6000 : Int).toNat
            exact Int.mul_pos (by decide) (Int.pow_pos (by decide))
          · refine ⟨_, rfl, _, rfl, _, _, rfl, rfl, hm, _, rfl, D, _, _, 2, rfl, rfl, hD1, rfl, ?_⟩
            refine ⟨_, rfl, .inl ⟨_, rfl, _, rfl, _, _, rfl, rfl, hm0, ?_⟩⟩
            exact q _ _ (Int.emod_nonneg _ (by omega)) (Int.emod_lt_of_pos _ hm0) ⟨d1.set (by omega), Keep.refl.set.set⟩
        · refine ⟨_, rfl, D, _, _, _, rfl, rfl, SqL.of hD1, atI_nat (j := 3) rfl, _, _, rfl, rfl, .inr ⟨by decide, by decide⟩, ?_⟩
          refine ⟨_, rfl, .inl ⟨_, rfl, _, _, rfl, rfl, (by show (0 : Int) < 2147483629; decide), _, _, rfl, rfl, .inr ⟨by decide, by decide⟩, _, _, rfl, rfl, ?_⟩⟩
          refine ⟨_, rfl, D, _, _, _, rfl, rfl, SqL.of hD1, atI_nat (j := 1) rfl, _, _, rfl, rfl, .inr ⟨by decide, by decide⟩, _, _, rfl, rfl, _, _, rfl, rfl, .inl ⟨_, rfl, ?_⟩⟩
          refine ⟨_, _, rfl, rfl, (by show (0 : Int) < 2147483647; decide), _, rfl, D, _, _, 3, rfl, rfl, hD1, rfl, ?_⟩
          refine ⟨_, rfl, D, _, _, _, rfl, rfl, SqL.of upd_same, atI_nat (j := 3) rfl, _, _, rfl, rfl, ⟨by decide, by decide⟩, ?_⟩
          refine .inl ⟨_, rfl, _, rfl, _, _, rfl, rfl, hm0, ?_⟩
          exact q _ _ (Int.emod_nonneg _ (by omega)) (Int.emod_lt_of_pos _ hm0) ⟨d1.set (by omega), Keep.refl.set.set⟩
theorem ok__law_begin (T : Txt K mg) {f : Addr} {fd : FuncData} (F : FnP K "_law_begin" s__law_begin f fd) : FnOk P w K mg base CX0 1 f fd ["script"] (spBegin K) := by
  refine F.ok sc__law_begin (fun vs H Q E h => ?_) (fun cdv A outer s H vs Q E hr h => ?_)
  · obtain ⟨a, ns, rfl, _⟩ := h
    rfl
  · obtain ⟨a, ns, rfl, hS, hlen, q⟩ := h
    refine ⟨_, PSs.nox (pss_one (ps_ret (pe_lst (pa_cons (pe_lc (own := [("cell", 1)]) (g := (gName 1)) (tt := tYes) rfl sc__law_begin.nd (pi_list (pv 0)) (blkOk_by (N := N__law_begin) (sc := defScope s__law_begin) (by decide +kernel)) (fun _ _ _ _ _ => (pg_name (i := 1) sc__law_begin.nd rfl (Or.inl rfl))) (fun _ _ _ _ _ => pts_nil) (fun _ _ _ _ _ => (pe_callTy call_int1 (by rfl) T.b_int (by decide +kernel) (pa_cons (pv 1) pa_nil)))) (pa_cons pe_int (pa_cons pe_int (pa_cons pe_int pa_nil))))))), ?_⟩
    refine ⟨_, rfl, a, rfl, ⟨_, hS⟩, fun L hL => lc_list (xs := ns.map V.int) (fun i H' => H' = upd H L (.lst ((ns.take i).map V.int))) rfl (fun i H' _ e => ?_) ?_ ?_⟩
    · subst e
      exact (show Same H _ from fun b o h => by rw [upd_ne (ne_of_none h hL)]; exact h).seq hS
    · rintro i x H1 hi rfl
      obtain ⟨z, rfl, hz⟩ := getV hi
      refine ⟨rfl, _, rfl, .inl ⟨_, rfl, _, upd_same, ?_, ?_⟩⟩
      · rw [List.length_map, List.length_take]
        exact Nat.lt_of_le_of_lt (Nat.min_le_right _ _) (small1000 (by omega))
      · rw [upd_upd, take_map_succ (f := V.int) hz]
    · rintro H' rfl
      refine ⟨by show 4 ≤ sizeLine; decide, fun D hD => ?_⟩
      have nLD : D ≠ L := fun e => by
        rw [e, upd_same] at hD
        cases hD
      have hD0 : H D = none := by
        rw [upd_ne nLD] at hD
        exact hD
      refine q L D _ (fun b o h => ?_) hD0 ⟨fun e => nLD e.symm, ⟨ns, ?_⟩, ⟨0, 0, 7, by decide, upd_same⟩⟩
      · rw [upd_ne (ne_of_none h hD0), upd_ne (ne_of_none h hL)]
        exact h
      · rw [upd_ne (fun e => nLD e.symm), upd_same]
        rw [List.take_of_length_le (by rw [List.length_map]; exact Nat.le_refl _)]
theorem ok__law_pick (T : Txt K mg) (D__law_draw : Kept P w K mg base 1 "_law_draw" ["d", "many"] spDraw) {f : Addr} {fd : FuncData} (F : FnP K "_law_pick" s__law_pick f fd) : FnOk P w K mg base CX0 2 f fd ["d", "row"] (spPick K) := by
  refine F.ok sc__law_pick (fun vs H Q E h => ?_) (fun cdv A outer s H vs Q E hr h => ?_)
  · obtain ⟨S, D, r, xs, rfl, _⟩ := h
    rfl
  · obtain ⟨S, D, r, xs, rfl, d, hR, h0, h1, q⟩ := h
    refine ⟨_, PSs.nox (pss_one (ps_ret (pe_ix ix_seq (pv 1) (pe_d D__law_draw (hr.mono (by decide)) (by rfl) (pa_cons (pv 0) (pa_cons (pe_callB call_len (by rfl) T.b_len (by decide +kernel) (pa_cons (pv 1) pa_nil)) pa_nil))) (fun _ _ => rfl)))), ?_⟩
    refine ⟨r, rfl, _, rfl, _, rfl, r, xs.length, rfl, ?_, ?_⟩
    · rcases hR H (Go.refl d) with ⟨z, rfl, rfl⟩ | ⟨p, rfl, hp⟩ | ⟨p, rfl, hp⟩
      · refine ⟨?_, by simp [Str.length]⟩
        rw [List.length_map] at h1
        have : z.length = z.cps.toList.length := by simp [Str.length]
        rw [this]
        exact Nat.le_trans h1 (by decide)
      · exact .inl ⟨_, hp, rfl⟩
      · exact .inr ⟨_, hp, rfl⟩
    · refine ⟨S, D, _, rfl, divW_of (by omega) (by omega), d, fun H' v hv0 hv1 g => ?_⟩
      have hv : v.toNat < xs.length := by omega
      have e : ((v.toNat : Nat) : Int) = v := by omega
      have ex : xs[v.toNat]? = some xs[v.toNat] := List.getElem?_eq_getElem hv
      have ea : atI xs v = some xs[v.toNat] := by
        have := atI_nat (xs := xs) ex
        rw [e] at this
        exact this
      rcases hR H' g with ⟨z, rfl, rfl⟩ | ⟨p, rfl, hp⟩ | ⟨p, rfl, hp⟩
      · refine .inr (.inr ⟨z, v, z.cps.toList[v.toNat]'(by rw [List.length_map] at hv; exact hv), rfl, rfl, ?_, ?_, ?_⟩)
        · rw [List.length_map] at h1
          have : z.length = z.cps.toList.length := by simp [Str.length]
          rw [this]
          exact Nat.le_trans h1 (by decide)
        · have := atI_nat (xs := z.cps.toList) (List.getElem?_eq_getElem (show v.toNat < z.cps.toList.length by rw [List.length_map] at hv; exact hv))
          rw [e] at this
          exact this
        · refine q H' _ ?_ g
          exact List.mem_map_of_mem (List.getElem_mem _)
      · exact .inl ⟨p, xs, v, _, rfl, rfl, hp, ea, q H' _ (List.getElem_mem _) g⟩
      · exact .inr (.inl ⟨p, xs, v, _, rfl, rfl, hp, ea, q H' _ (List.getElem_mem _) g⟩)
theorem ok__law_pop (T : Txt K mg) (D__law_draw : Kept P w K mg base 1 "_law_draw" ["d", "many"] spDraw) {f : Addr} {fd : FuncData} (F : FnP K "_law_pop" s__law_pop f fd) : FnOk P w K mg base CX0 2 f fd ["d", "row"] spPop := by
  refine F.ok sc__law_pop (fun vs H Q E h => ?_) (fun cdv A outer s H vs Q E hr h => ?_)
  · obtain ⟨S, D, p, xs, rfl, _⟩ := h
    rfl
  · obtain ⟨S, D, p, xs, rfl, d, nD, hp, h0, h1, q⟩ := h
    refine ⟨_, PSs.nox (pss_one (ps_ret (pe_bm PySem.F.plainAttrs_list PySem.F.slot_list_pop PySem.F.type_list_pop mt_popAt (pv 1) (pa_cons (pe_d D__law_draw (hr.mono (by decide)) (by rfl) (pa_cons (pv 0) (pa_cons (pe_callB call_len (by rfl) T.b_len (by decide +kernel) (pa_cons (pv 1) pa_nil)) pa_nil))) pa_nil)))), ?_⟩
    refine ⟨_, rfl, .inl ⟨rfl, _, SqL.of hp⟩, _, rfl, _, rfl, _, _, rfl, .inl ⟨_, SqL.of hp, rfl⟩, S, D, _, rfl, divW_of (by omega) (by omega), d, fun H1 v v0 v1 g => ?_⟩
    have hv : v.toNat < xs.length := by omega
    have ex : xs[v.toNat]? = some xs[v.toNat] := List.getElem?_eq_getElem hv
    refine ⟨p, xs, v, v.toNat, _, rfl, rfl, g.2 _ _ hp nD, by omega, by omega, ?_, ex, q H1 _ _ g ex⟩
    exact seqIndex_of v0 (by omega)
theorem ok__law_rare (T : Txt K mg) (D__law_draw : Kept P w K mg base 1 "_law_draw" ["d", "many"] spDraw) {f : Addr} {fd : FuncData} (F : FnP K "_law_rare" s__law_rare f fd) : FnOk P w K mg base CX0 2 f fd ["d", "many"] spRare := by
  refine F.ok sc__law_rare (fun vs H Q E h => ?_) (fun cdv A outer s H vs Q E hr h => ?_)
  · obtain ⟨S, D, m, rfl, _⟩ := h
    rfl
  · obtain ⟨S, D, m, rfl, m0, m1, d, q⟩ := h
    refine ⟨_, PSs.nox (pss_one (ps_ret (pe_cmpR op_eq (pe_d D__law_draw (hr.mono (by decide)) (by rfl) (pa_cons (pv 0) (pa_cons (pv 1) pa_nil))) (pe_op op_fdivW (pv 1) pe_int) (nomark _)))), ?_⟩
    exact ⟨_, rfl, _, rfl, S, D, m, rfl, divW_of m0 (by omega), d, fun H1 v _ _ g => ⟨_, rfl, _, _, rfl, rfl, ⟨by decide, by decide⟩, rfl, q H1 _ g⟩⟩
theorem ok__law_pool (T : Txt K mg) {f : Addr} {fd : FuncData} (F : FnP K "_law_pool" s__law_pool f fd) : FnOk P w K mg base CX0 1 f fd [] spPool := by
  refine F.ok sc__law_pool (fun vs H Q E h => ?_) (fun cdv A outer s H vs Q E hr h => ?_)
  · obtain ⟨rfl, _⟩ := h
    rfl
  · obtain ⟨rfl, q⟩ := h
    refine ⟨_, PSs.nox (pss_cons (ps_set (i := 0) sc__law_pool.nd rfl (Or.inl rfl) pe_str)
      (pss_cons (ps_set (i := 0) sc__law_pool.nd rfl (Or.inl rfl) (pe_op op_add_str (pv 0) pe_str))
      (pss_one (ps_ret (pe_split (pe_op op_add_str (pv 0) pe_str) pe_str))))), ?_⟩
    exact ⟨_, rfl, _, _, rfl, rfl, by decide +kernel, _, rfl, _, _, rfl, rfl, by decide +kernel, ⟨_, rfl⟩, _, _, rfl, rfl, by decide +kernel, by decide +kernel, fun p hp => q p hp⟩
theorem ok__law_is_int (T : Txt K mg) {f : Addr} {fd : FuncData} (F : FnP K "_law_is_int" s__law_is_int f fd) : FnOk P w K mg base CX0 1 f fd ["thing"] spIsInt := by
  refine F.ok sc__law_is_int (fun vs H Q E h => ?_) (fun cdv A outer s H vs Q E hr h => ?_)
  · obtain ⟨p, rfl, _⟩ := h
    rfl
  · obtain ⟨i, rfl, q⟩ := h
    refine ⟨_, PSs.nox (pss_one (ps_ret (pe_and (pe_callB call_isi (by rfl) T.b_isinstance (by decide +kernel) (pa_cons (pv 0) (pa_cons (pe_bltn (v := .ty "int") (u := .type "int") (by rfl) T.b_int (by decide +kernel) rfl) pa_nil))) (pe_one (pe_not (pe_callB call_isi (by rfl) T.b_isinstance (by decide +kernel) (pa_cons (pv 0) (pa_cons (pe_bltn (v := .ty "bool") (u := .type "bool") (by rfl) T.b_bool (by decide +kernel) rfl) pa_nil)))))))), ?_⟩
    refine ⟨_, rfl, _, .ty "int", .type "int", .type "int", true, rfl, .ty _, .base (.int _), kit_ty (by decide +kernel), true, rfl, ?_⟩
    exact ⟨_, rfl, _, .ty "bool", .type "int", .type "bool", false, rfl, .ty _, .base (.int _), kit_ty (by decide +kernel), false, rfl, q⟩
theorem ok__law_is_ints (T : Txt K mg) (D__law_is_int : Kept P w K mg base 1 "_law_is_int" ["thing"] spIsInt) {f : Addr} {fd : FuncData} (F : FnP K "_law_is_ints" s__law_is_ints f fd) : FnOk P w K mg base CX0 2 f fd ["row"] (spIsInts K) := by
  refine F.ok sc__law_is_ints (fun vs H Q E h => ?_) (fun cdv A outer s H vs Q E hr h => ?_)
  · obtain ⟨p, ns, rfl, _⟩ := h
    rfl
  · obtain ⟨p, ns, rfl, hp, hl, q⟩ := h
    refine ⟨_, PSs.nox (pss_one (ps_ret (pe_and (pe_callB call_isi (by rfl) T.b_isinstance (by decide +kernel) (pa_cons (pv 0) (pa_cons (pe_bltn (v := .ty "tuple") (u := .type "tuple") (by rfl) T.b_tuple (by decide +kernel) rfl) pa_nil))) (pe_one (pe_callB (cr_all rfl) (by rfl) T.b_all (by decide +kernel) (pa_cons (pe_lc (own := [("part", 1)]) (g := (gName 1)) (tt := tYes) rfl sc__law_is_ints.nd (pi_tup (pv 0)) (blkOk_by (N := N__law_is_ints) (sc := defScope s__law_is_ints) (by decide +kernel)) (fun _ _ _ _ _ => (pg_name (i := 1) sc__law_is_ints.nd rfl (Or.inl rfl))) (fun _ _ _ _ _ => pts_nil) (fun _ _ _ _ _ => (pe_d D__law_is_int (hr.mono (by decide)) (by rfl) (pa_cons (pv 1) pa_nil)))) pa_nil)))))), ?_⟩
    refine ⟨_, rfl, _, .ty "tuple", .type "tuple", .type "tuple", true, rfl, .ty _, sqt_ty hp, kit_ty (by decide +kernel), true, rfl, ?_⟩
    refine ⟨_, rfl, p, rfl, ⟨_, hp⟩, fun L hL => lc_tup (K := K) (a := p) (xs := ns.map V.int) (fun i H' => H' = upd H L (.lst ((ns.take i).map fun _ => .bl true))) rfl (fun i H' _ e => ?_) ?_ ?_⟩
    · subst e
      exact same_t (same_new hL) hp
    · rintro i x H1 hi rfl
      obtain ⟨z, rfl, hz⟩ := getV hi
      refine ⟨rfl, _, rfl, z, rfl, _, upd_same, ?_, ?_⟩
      · rw [List.length_map, List.length_take]
        exact Nat.lt_of_le_of_lt (Nat.min_le_right _ _) (small1000 (by omega))
      · rw [upd_upd, take_map_succ (f := fun _ => V.bl true) hz]
    · rintro H' rfl
      rw [List.take_of_length_le (by rw [List.length_map]; exact Nat.le_refl _)]
      refine ⟨L, ns.map fun _ => true, rfl, SqL.of (by rw [upd_same, List.map_map]; rfl), ?_⟩
      rw [all_true]
      exact q _ (same_new hL)
end
end Mt

namespace Mt
open PySem PySem.Spec PyProof.Rows L2
theorem ixL {X : Cx} {K : PySem.W.Frag} (h : X.K = K) : IxR X (rIxL K) := h ▸ ix_list
theorem tupOfT {X : Cx} {K : PySem.W.Frag} (h : X.K = K) : CallR X (.type "tuple") (fun xs H Q => ∃ p ys, xs = [.ref p] ∧ ((SqL K H p ys ∧ ∀ l, H l = none → Q (.ref l) (upd H l (.tup ys))) ∨ (SqT K H p ys ∧ Q (.ref p) H))) := h ▸ call_tuple_of
theorem catA {X : Cx} {K : PySem.W.Frag} (h : X.K = K) : OpR X (binaryOp .Add) (rCatA K) := h ▸ op_catA
theorem srtK {X : Cx} {K : PySem.W.Frag} (h : X.K = K) (hu : X.A.units + 64 < cLine) : CallR X (.builtin "sorted") (SR.rSrt K) := h ▸ SR.cr_srt hu
theorem goU {S D L : Addr} {H0 H : Hp} {o : HO} (L0 : H0 L = none) (d0 : DrawAt S D H0) (g : Go S D H0 H) : Go S D H0 (upd H L o) := by
  obtain ⟨LD, LS⟩ := d0.free L0
  obtain ⟨cs, hc⟩ := g.1.cells
  obtain ⟨j, r, c, j0, hD⟩ := g.1.at_
  refine ⟨⟨g.1.ne, ⟨cs, ?_⟩, ⟨j, r, c, j0, ?_⟩⟩, fun b o h n => ?_⟩
  · rw [upd_ne LS.symm]
    exact hc
  · rw [upd_ne LD.symm]
    exact hD
  · rw [upd_ne (ne_of_none h L0)]
    exact g.2 b o h n
theorem catA_mono {K : PySem.W.Frag} {x y : V} {H : Hp} {Q Q' : VK} (h : rCatA K x y H Q) (m : ∀ x H, Q x H → Q' x H) : rCatA K x y H Q' := by
  obtain ⟨a, b, xs, ys, e1, e2, h1, h2, h3, q0, q1, q2⟩ := h
  exact ⟨a, b, xs, ys, e1, e2, h1, h2, h3, fun e => m _ _ (q0 e), fun e1 e2 => m _ _ (q1 e1 e2), fun e1 e2 p hp => m _ _ (q2 e1 e2 p hp)⟩
/-! ### words and chains -/
def dI (l : List Int) : PyData := .tuple (l.map .int)
def dSh (ss : List Str) : PyData := .tuple (ss.map .str)
abbrev Br : Type := List Int × List Str × Nat
def dBr (b : Br) : PyData := .tuple [dI b.1, dSh b.2.1, .int b.2.2]
def dRw (r : List Br) : PyData := .tuple (r.map dBr)
abbrev Chn : Type := List (List Br)
def dChn (base : Int) (C : Chn) : PyData := .tuple [.str "chain", .int base, .tuple (C.map dRw)]
theorem dI_noL (l : List Int) : noL (dI l) = true := noLs_map _ _ fun _ _ => rfl
theorem dSh_noL (l : List Str) : noL (dSh l) = true := noLs_map _ _ fun _ _ => rfl
theorem dBr_noL (b : Br) : noL (dBr b) = true := by
  show (noL (dI b.1) && (noL (dSh b.2.1) && (true && true))) = true
  rw [dI_noL, dSh_noL]
  rfl
theorem dRw_noL (r : List Br) : noL (dRw r) = true := noLs_map _ _ fun b _ => dBr_noL b
theorem dChn_noL (base : Int) (C : Chn) : noL (dChn base C) = true := by
  show (true && (true && (noLs (C.map dRw) && true))) = true
  rw [noLs_map _ _ fun r _ => dRw_noL r]
  rfl
theorem noLs_I (ws : List (List Int)) : noLs (ws.map dI) = true := noLs_map _ _ fun w _ => dI_noL w
section
variable {K : PySem.W.Frag} {H H' : Hp} {v : V}
theorem dp_strs : ∀ {ss : List Str} {xs : List V}, DpAll K H xs (ss.map .str) → xs = ss.map V.str
  | [], _, h => dpA_nil h
  | s :: r, _, h => by
    obtain ⟨x, t, rfl, h1, h2⟩ := dpA_cons h
    rw [dp_str h1, dp_strs h2]
    rfl
theorem strs_dp : ∀ ss : List Str, DpAll K H (ss.map V.str) (ss.map .str)
  | [] => .nil
  | s :: r => .cons (.str s) (strs_dp r)
theorem dp_ints : ∀ {ss : List Int} {xs : List V}, DpAll K H xs (ss.map .int) → xs = ss.map V.int
  | [], _, h => dpA_nil h
  | s :: r, _, h => by
    obtain ⟨x, t, rfl, h1, h2⟩ := dpA_cons h
    rw [dp_int h1, dp_ints h2]
    rfl
theorem ints_dp : ∀ ss : List Int, DpAll K H (ss.map V.int) (ss.map .int)
  | [] => .nil
  | s :: r => .cons (.int s) (ints_dp r)
theorem sh_of {p : Addr} {ss : List Str} (h : SqT K H p (ss.map V.str)) : Dp K H (.ref p) (dSh ss) := .tup h (strs_dp ss)
theorem sh_at {ss : List Str} (h : Dp K H v (dSh ss)) : ∃ p, v = .ref p ∧ SqT K H p (ss.map V.str) := by
  obtain ⟨p, xs, rfl, h1, h2⟩ := dp_tup h
  rw [dp_strs h2] at h1
  exact ⟨p, rfl, h1⟩
theorem i_of {p : Addr} {ss : List Int} (h : SqT K H p (ss.map V.int)) : Dp K H (.ref p) (dI ss) := .tup h (ints_dp ss)
theorem i_at {ss : List Int} (h : Dp K H v (dI ss)) : ∃ p, v = .ref p ∧ SqT K H p (ss.map V.int) := by
  obtain ⟨p, xs, rfl, h1, h2⟩ := dp_tup h
  rw [dp_ints h2] at h1
  exact ⟨p, rfl, h1⟩
theorem br_at {b : Br} (h : Dp K H v (dBr b)) : ∃ p x0 x1, v = .ref p ∧ SqT K H p [x0, x1, .int b.2.2] ∧ Dp K H x0 (dI b.1) ∧ Dp K H x1 (dSh b.2.1) := by
  obtain ⟨p, xs, rfl, h1, hA⟩ := dp_tup h
  obtain ⟨x0, r0, rfl, h0, hA⟩ := dpA_cons hA
  obtain ⟨x1, r1, rfl, h2, hA⟩ := dpA_cons hA
  obtain ⟨x2, r2, rfl, h3, hA⟩ := dpA_cons hA
  cases dpA_nil hA
  rw [dp_int h3] at h1
  exact ⟨p, x0, x1, rfl, h1, h0, h2⟩
theorem chn_at {base : Int} {C : Chn} (h : Dp K H v (dChn base C)) : ∃ p q xs, v = .ref p ∧ SqT K H p [.str "chain", .int base, .ref q] ∧ SqT K H q xs ∧ DpAll K H xs (C.map dRw) := by
  obtain ⟨p, xs, rfl, h1, hA⟩ := dp_tup h
  obtain ⟨x0, r0, rfl, h0, hA⟩ := dpA_cons hA
  obtain ⟨x1, r1, rfl, h2, hA⟩ := dpA_cons hA
  obtain ⟨x2, r2, rfl, h3, hA⟩ := dpA_cons hA
  cases dpA_nil hA
  rw [dp_str h0, dp_int h2] at h1
  obtain ⟨q, ys, rfl, h4, h5⟩ := dp_tup h3
  exact ⟨p, q, ys, rfl, h1, h4, h5⟩
theorem dpA_get {α : Type} {f : α → PyData} {l : List α} {xs : List V} {i : Nat} {a : α} (h : DpAll K H xs (l.map f)) (e : l[i]? = some a) : ∃ x, xs[i]? = some x ∧ Dp K H x (f a) := by
  have hl := dpA_len h
  rw [List.length_map] at hl
  have hi : i < l.length := (List.getElem?_eq_some_iff.mp e).1
  obtain ⟨x, hx⟩ : ∃ x, xs[i]? = some x := ⟨xs[i]'(by omega), List.getElem?_eq_getElem _⟩
  obtain ⟨d, h1, h2⟩ := dpA_at h hx
  rw [List.getElem?_map, e] at h1
  obtain rfl : f a = d := Option.some.inj h1
  exact ⟨x, hx, h2⟩
theorem dpA_mem {α : Type} {f : α → PyData} {l : List α} {xs : List V} {i : Nat} {x : V} (h : DpAll K H xs (l.map f)) (e : xs[i]? = some x) : ∃ a, l[i]? = some a ∧ Dp K H x (f a) := by
  obtain ⟨d, h1, h2⟩ := dpA_at h e
  obtain ⟨a, h3, rfl⟩ := map_at h1
  exact ⟨a, h3, h2⟩
theorem dpA_app : ∀ {ds es : List PyData} {xs ys : List V}, DpAll K H xs ds → DpAll K H ys es → DpAll K H (xs ++ ys) (ds ++ es)
  | [], _, _, _, h, h' => by
    rw [dpA_nil h]
    exact h'
  | d :: ds, _, _, _, h, h' => by
    obtain ⟨x, r, rfl, h1, h2⟩ := dpA_cons h
    exact .cons h1 (dpA_app h2 h')
theorem dpA_erase : ∀ {ds : List PyData} {xs : List V} (i : Nat), DpAll K H xs ds → DpAll K H (xs.eraseIdx i) (ds.eraseIdx i)
  | [], _, _, h => by
    rw [dpA_nil h]
    exact .nil
  | d :: ds, _, 0, h => by
    obtain ⟨x, r, rfl, h1, h2⟩ := dpA_cons h
    exact h2
  | d :: ds, _, i + 1, h => by
    obtain ⟨x, r, rfl, h1, h2⟩ := dpA_cons h
    exact .cons h1 (dpA_erase i h2)
end
def NP (a b : List Int) : Prop := ¬ a <+: b ∧ ¬ b <+: a
theorem NP.symm {a b : List Int} (h : NP a b) : NP b a := ⟨h.2, h.1⟩
theorem erase_perm {α : Type} : ∀ {l : List α} {i : Nat} {z : α}, l[i]? = some z → (z :: l.eraseIdx i).Perm l
  | [], i, _, h => by simp at h
  | x :: r, 0, z, h => by
    have : x = z := Option.some.inj h
    subst this
    exact .refl _
  | x :: r, i + 1, z, h => by
    have h' : r[i]? = some z := by simpa using h
    exact (List.Perm.swap x z _).trans ((erase_perm h').cons x)
theorem np_erase {l : List (List Int)} {i : Nat} {w u : List Int} (p : l.Pairwise NP) (h : l[i]? = some w) (hu : u ∈ l.eraseIdx i) : NP w u := by
  have q := ((erase_perm h).pairwise_iff fun {_ _} => NP.symm).mpr p
  exact (List.pairwise_cons.mp q).1 u hu
theorem np_snoc {u w : List Int} {x : Int} (h : NP w u) : NP u (w ++ [x]) := by
  refine ⟨fun k => ?_, fun k => h.1 ((List.prefix_append w [x]).trans k)⟩
  obtain ⟨t, ht⟩ := k
  rcases List.eq_nil_or_concat t with e | ⟨t', y, e⟩
  · subst e
    rw [List.append_nil] at ht
    rw [ht] at h
    exact h.1 (List.prefix_append w [x])
  · subst e
    rw [List.concat_eq_append, ← List.append_assoc] at ht
    have := (List.append_inj' ht rfl).1
    exact h.2 ⟨t', this⟩
/-- every tape that is long enough begins with one of them -/
structure Cmpl (base : Int) (ws : List (List Int)) : Prop where
  all : ∀ t : List Int, (∀ x ∈ t, 0 ≤ x ∧ x < base) → 3 ≤ t.length → ∃ w ∈ ws, w <+: t
  short : ∀ w ∈ ws, w.length ≤ 3
  one : ws = [[]] ∨ ∀ w ∈ ws, w ≠ []
  pf : ws.Pairwise NP
theorem Cmpl.start (base : Int) : Cmpl base [[]] := ⟨fun t _ _ => ⟨[], List.mem_singleton.mpr rfl, List.nil_prefix⟩, fun w h => by rw [List.mem_singleton.mp h]; exact Nat.zero_le _, .inl rfl, List.pairwise_singleton _ _⟩
def digits (base : Int) : List Int := (List.range base.toNat).map fun k : Nat => (0 : Int) + (k : Int)
theorem Cmpl.open {base : Int} {ws : List (List Int)} {i : Nat} {w : List Int} (c : Cmpl base ws) (hi : ws[i]? = some w) (hw : w.length < 3) : Cmpl base (ws.eraseIdx i ++ (digits base).map fun x => w ++ [x]) := by
  refine ⟨fun t ht hl => ?_, fun u hu => ?_, .inr fun u hu => ?_, ?_⟩
  · obtain ⟨u, hu, hp⟩ := c.all t ht hl
    by_cases e : u = w
    · subst e
      obtain ⟨r, rfl⟩ := hp
      cases r with
      | nil =>
        rw [List.append_nil] at hl
        omega
      | cons x r =>
        obtain ⟨h1, h2⟩ := ht x (List.mem_append.mpr (.inr List.mem_cons_self))
        refine ⟨u ++ [x], List.mem_append.mpr (.inr (List.mem_map.mpr ⟨x, List.mem_map.mpr ⟨x.toNat, List.mem_range.mpr (by omega), by omega⟩, rfl⟩)), ⟨r, by simp⟩⟩
    · refine ⟨u, List.mem_append.mpr (.inl ?_), hp⟩
      obtain ⟨j, hj⟩ := List.mem_iff_getElem?.mp hu
      have hji : j ≠ i := fun z => e (by rw [z, hi] at hj; exact (Option.some.inj hj).symm)
      rw [List.mem_eraseIdx_iff_getElem?]
      exact ⟨j, hji, hj⟩
  · rcases List.mem_append.mp hu with h | h
    · exact c.short u (List.mem_of_mem_eraseIdx h)
    · obtain ⟨x, _, rfl⟩ := List.mem_map.mp h
      rw [List.length_append, List.length_singleton]
      omega
  · rcases List.mem_append.mp hu with h | h
    · rcases c.one with e | e
      · rw [e] at h hi
        cases i with
        | zero => cases h
        | succ i => cases hi
      · exact e u (List.mem_of_mem_eraseIdx h)
    · obtain ⟨x, _, rfl⟩ := List.mem_map.mp h
      simp
  · refine List.pairwise_append.mpr ⟨c.pf.sublist (List.eraseIdx_sublist _ _), ?_, fun u hu v hv => ?_⟩
    · unfold digits
      rw [List.map_map, List.pairwise_map]
      refine (List.nodup_range (n := base.toNat)).imp fun {a b} hab => ?_
      have key : ∀ a b : Nat, a ≠ b → ¬ (w ++ [(0 : Int) + (a : Int)]) <+: (w ++ [(0 : Int) + (b : Int)]) := fun a b h k => by
        have e := k.eq_of_length (by rw [List.length_append, List.length_append]; rfl)
        have := (List.append_inj' e rfl).2
        have : (0 : Int) + (a : Int) = 0 + (b : Int) := (List.cons.inj this).1
        omega
      exact ⟨key a b hab, key b a hab.symm⟩
    · obtain ⟨x, _, rfl⟩ := List.mem_map.mp hv
      exact np_snoc (np_erase c.pf hi hu)
end Mt
namespace Mt
open PySem PySem.Spec PyProof.Rows L2
def spWords (K : PySem.W.Frag) : Sp := fun vs H Q _ => ∃ (S D : Addr) (base many : Int), vs = [.ref D, .int base, .int many] ∧ DrawAt S D H ∧ 2 ≤ base ∧ base ≤ 6 ∧ 0 ≤ many ∧ many ≤ 2 ∧
  ∀ (H' : Hp) (L : Addr) (xs : List V) (ws : List (List Int)), Go S D H H' → H L = none → H' L = some (.lst xs) → DpAll K H' xs (ws.map dI) → Cmpl base ws → 0 < ws.length → ws.length ≤ 20 → Q (.ref L) H'
def spShown (K : PySem.W.Frag) : Sp := fun vs H Q _ => ∃ (S D m : Addr) (ms : List Str), vs = [.ref D, .ref m] ∧ DrawAt S D H ∧ m ≠ D ∧ H m = some (.lst (ms.map V.str)) ∧ 0 < ms.length ∧ ms.length ≤ 100 ∧
  ∀ (H' : Hp) (p : Addr) (ss : List Str), Go S D H H' → H p = none → H' p = some (.tup (ss.map V.str)) → (∀ s ∈ ss, s ∈ ms) → ss.length ≤ 6 → Q (.ref p) H'
theorem dig_at {base : Int} {j : Nat} (h : j < base.toNat) : (digits base)[j]? = some (0 + (j : Int)) := by
  unfold digits
  rw [List.getElem?_map, List.getElem?_range h]
  rfl
theorem dig_len (base : Int) : (digits base).length = base.toNat := by
  unfold digits
  rw [List.length_map, List.length_range]
theorem alike_I (a b : List Int) : PySem.W.alike (dI a) (dI b) = true := by
  unfold dI
  simp [PySem.W.alike, PySem.W.alike_ints]
theorem dep_I (a : List Int) : (dI a).depth ≤ 1 := by
  unfold dI
  simp [PyData.depth, PySem.W.depth_ints]
theorem srt_words {base : Int} {ws : List (List Int)} (c : Cmpl base ws) : SR.SrtOk (ws.map dI) := by
  refine ⟨PySem.W.AllAlike.of alike_I, ?_, fun d hd => ?_⟩
  · rcases c.one with e | e
    · right
      rw [e]
      rfl
    · left
      left
      intro d hd
      obtain ⟨w, hw, rfl⟩ := List.mem_map.mp hd
      cases h : w with
      | nil => exact absurd h (e w hw)
      | cons x r => exact ⟨_, _, rfl⟩
  · obtain ⟨w, hw, rfl⟩ := List.mem_map.mp hd
    exact Nat.le_trans (dep_I w) (by decide)
/-- data beside the values -/
theorem zip_dp {K : PySem.W.Frag} {H : Hp} : ∀ {ds : List PyData} {xs : List V}, DpAll K H xs ds → (xs.zip ds).map (·.1) = xs ∧ (xs.zip ds).map (·.2) = ds ∧ ∀ b ∈ xs.zip ds, Dp K H b.1 b.2
  | [], _, h => by
    rw [dpA_nil h]
    exact ⟨rfl, rfl, fun _ h => absurd h List.not_mem_nil⟩
  | d :: ds, _, h => by
    obtain ⟨x, r, rfl, h1, h2⟩ := dpA_cons h
    obtain ⟨a, b, c⟩ := zip_dp h2
    refine ⟨by rw [List.zip_cons_cons, List.map_cons, a], by rw [List.zip_cons_cons, List.map_cons, b], fun y hy => ?_⟩
    rw [List.zip_cons_cons] at hy
    rcases List.mem_cons.mp hy with rfl | hy
    · exact h1
    · exact c y hy
theorem dpA_of {K : PySem.W.Frag} {H : Hp} : ∀ {bs : List (V × PyData)}, (∀ b ∈ bs, Dp K H b.1 b.2) → DpAll K H (bs.map (·.1)) (bs.map (·.2))
  | [], _ => .nil
  | b :: r, h => .cons (h b List.mem_cons_self) (dpA_of fun x hx => h x (List.mem_cons_of_mem _ hx))
theorem perm_back {α β : Type} {f : α → β} {l : List α} {l2 : List β} (h : l2.Perm (l.map f)) : ∃ l' : List α, l'.Perm l ∧ l2 = l'.map f := by
  generalize hm : l.map f = m at h
  induction h generalizing l with
  | nil =>
    cases l with
    | nil => exact ⟨[], .nil, rfl⟩
    | cons x r => cases hm
  | @cons x l1 l2 p ih =>
    cases l with
    | nil => cases hm
    | cons y r =>
      obtain ⟨e1, e2⟩ := List.cons.inj hm
      obtain ⟨l', h1, h2⟩ := ih e2
      exact ⟨y :: l', h1.cons y, by rw [List.map_cons, e1, h2]⟩
  | @swap x y l1 =>
    match l, hm with
    | a :: b :: r, hm =>
      obtain ⟨e1, e2⟩ := List.cons.inj hm
      obtain ⟨e3, e4⟩ := List.cons.inj e2
      exact ⟨b :: a :: r, .swap a b r, by rw [List.map_cons, List.map_cons, e1, e3, e4]⟩
  | @trans l1 l2 l3 p1 p2 ih1 ih2 =>
    obtain ⟨l', h1, h2⟩ := ih2 hm
    obtain ⟨l'', h3, h4⟩ := ih1 h2.symm
    exact ⟨l'', h3.trans h1, h4⟩
theorem Cmpl.perm {base : Int} {ws ws' : List (List Int)} (c : Cmpl base ws) (p : ws'.Perm ws) : Cmpl base ws' := by
  refine ⟨fun t h1 h2 => ?_, fun w hw => c.short w (p.mem_iff.mp hw), ?_, (p.pairwise_iff fun {_ _} => NP.symm).mpr c.pf⟩
  · obtain ⟨w, hw, h⟩ := c.all t h1 h2
    exact ⟨w, p.mem_iff.mpr hw, h⟩
  · rcases c.one with e | e
    · left
      rw [e] at p
      exact List.perm_singleton.mp p
    · exact .inr fun w hw => e w (p.mem_iff.mp hw)
section
variable {P : Program} {w : World} {K : PySem.W.Frag} {mg : Str → Option Value} {base : Heap}
theorem ok__law_words (T : Txt K mg) (D__law_draw : Kept P w K mg base 1 "_law_draw" ["d", "many"] spDraw) {f : Addr} {fd : FuncData} (F : FnP K "_law_words" s__law_words f fd) : FnOk P w K mg base CX0 2 f fd ["d", "base", "many"] (spWords K) := by
  refine F.ok sc__law_words (fun vs H Q E h => ?_) (fun cdv A outer s H vs Q E hr h => ?_)
  · obtain ⟨S, D, b, many, rfl, _⟩ := h
    rfl
  · obtain ⟨S, D, b, many, rfl, d, b2, b6, m0, m2, q⟩ := h
    refine ⟨_, PSs.nox (pss_cons (ps_set (i := 3) sc__law_words.nd rfl (Or.inl rfl) (pe_lst (pa_cons (pe_tup pa_nil) pa_nil)))
      (pss_cons (ps_for PassesOwn.never rfl (pi_range1 (by rfl) T.b_range (pa_cons (pv 2) pa_nil)) (pg_name (i := 4) sc__law_words.nd rfl (Or.inl rfl)) (pss_cons (ps_set (i := 5) sc__law_words.nd rfl (Or.inl rfl) (pe_d D__law_draw (hr.mono (by decide)) (by rfl) (pa_cons (pv 0) (pa_cons (pe_callB call_len (by rfl) T.b_len (by decide +kernel) (pa_cons (pv 3) pa_nil)) pa_nil))))
      (pss_one (ps_if (pt_cmpR op_lt (pe_callB call_len (by rfl) T.b_len (by decide +kernel) (pa_cons (pe_ix ix_list (pv 3) (pv 5) (fun _ _ => rfl)) pa_nil)) pe_int (nomark _)) (pss_cons (ps_set (i := 6) sc__law_words.nd rfl (Or.inr rfl) (pe_bm PySem.F.plainAttrs_list PySem.F.slot_list_pop PySem.F.type_list_pop mt_popAt (pv 3) (pa_cons (pv 5) pa_nil)))
      (pss_one (ps_set (i := 3) sc__law_words.nd rfl (Or.inl rfl) (pe_op op_cat (pv 3) (pe_lc (own := [("digit", 7)]) (g := (gName 7)) (tt := tYes) rfl sc__law_words.nd (pi_range1 (by rfl) T.b_range (pa_cons (pv 1) pa_nil)) (blkOk_by (N := N__law_words) (sc := defScope s__law_words) (by decide +kernel)) (fun _ _ _ _ _ => (pg_name (i := 7) sc__law_words.nd rfl (Or.inl rfl))) (fun _ _ _ _ _ => pts_nil) (fun _ _ _ _ _ => (pe_op (catA (K := K) rfl) (pv 6) (pe_tup (pa_cons (pv 7) pa_nil))))))))) pss_nil))))
      (pss_one (ps_ret (pe_callB (srtK (K := K) rfl hr.units) (by rfl) T.b_sorted (by decide +kernel) (pa_cons (pv 3) pa_nil)))))), ?_⟩
    refine ⟨Nat.zero_le _, fun p0 hp0 => ⟨by show 1 ≤ sizeLine; decide, fun L0 hL0 => ?_⟩⟩
    have g1 := Go.new (o := .tup []) d hp0
    have g2 := g1.trans (Go.new (o := .lst [.ref p0]) g1.1 hL0)
    have L00 := g1.free d hL0
    have hp2 : (upd (upd H p0 (.tup [])) L0 (.lst [.ref p0])) p0 = some (.tup []) := same_new hL0 _ _ upd_same
    refine ⟨_, rfl, _, rfl, by omega, by omega, for_range (lo := 0) (n := many.toNat) (fun i σ H' => ∃ (y4 y5 y6 y7 : Option V) (Lw : Addr) (xs : List V) (ws : List (List Int)), σ = [some (.ref D), some (.int b), some (.int many), some (.ref Lw), y4, y5, y6, y7] ∧ Go S D H H' ∧ H Lw = none ∧ H' Lw = some (.lst xs) ∧ DpAll K H' xs (ws.map dI) ∧ Cmpl b ws ∧ 0 < ws.length ∧ ws.length ≤ 1 + 6 * i) ⟨_, _, _, _, L0, _, [[]], rfl, g2, L00, upd_same, .cons (i_of (ss := []) (SqT.of hp2)) .nil, Cmpl.start b, by decide, by decide⟩ ?_ ?_⟩
    · rintro i σ H1 hi ⟨y4, y5, y6, y7, Lw, xs, ws, rfl, g, hL0, hL, hA, hc, l0, l1⟩
      have LD := (d.free hL0).1
      have xl := dpA_len hA
      rw [List.length_map] at xl
      refine ⟨_, rfl, _, rfl, _, _, rfl, .inl ⟨_, SqL.of hL, rfl⟩, S, D, _, rfl, divW_of (by omega) (by omega), g.1, fun H2 v v0 v1 g2 => ?_⟩
      have hv : v.toNat < xs.length := by omega
      have ex : xs[v.toNat]? = some xs[v.toNat] := List.getElem?_eq_getElem hv
      have hL2 := g2.2 _ _ hL LD
      have hA2 := dpA_keep (Go.keepT g.1 g2) _ _ (noLs_I ws) hA
      obtain ⟨wd, hw, hx⟩ := dpA_mem hA2 ex
      obtain ⟨pw, hpw, hpT⟩ := i_at hx
      have ea : atI xs v = some (.ref pw) := by
        have := atI_nat (xs := xs) ex
        rw [hpw, show ((v.toNat : Nat) : Int) = v by omega] at this
        exact this
      refine ⟨_, rfl, _, rfl, Lw, xs, v, _, rfl, rfl, SqL.of hL2, ea, _, _, rfl, .inr ⟨_, hpT, rfl⟩, ?_⟩
      refine ⟨_, _, rfl, rfl, _, rfl, ?_⟩
      refine ite2 (fun e3 => ?_) (fun _ => ⟨_, _, _, _, Lw, xs, ws, rfl, g.trans g2, hL0, hL2, hA2, hc, l0, by omega⟩)
      have hw3 : wd.length < 3 := by
        have := of_decide_eq_true e3
        rw [List.length_map] at this
        omega
      refine ⟨_, rfl, .inl ⟨rfl, _, SqL.of hL2⟩, _, rfl, Lw, xs, v, v.toNat, _, rfl, rfl, hL2, by omega, by omega, seqIndex_of v0 (by omega), ex, ?_⟩
      rw [hpw]
      have kL := keepT_nt (o := .lst (xs.eraseIdx v.toNat)) (nt_lst _) hL2
      have g3 : Go S D H (upd H2 Lw (.lst (xs.eraseIdx v.toNat))) := goU hL0 d (g.trans g2)
      have hL3 := upd_same (H := H2) (a := Lw) (o := .lst (xs.eraseIdx v.toNat))
      have hA3 := dpA_keep kL _ _ (noLs_I ws) hA2
      have hp3 := sqt_keep kL hpT
      generalize upd H2 Lw (.lst (xs.eraseIdx v.toNat)) = H3 at g3 hL3 hA3 hp3
      refine ⟨_, rfl, _, rfl, _, rfl, by omega, by omega, fun Lc hLc => lc_range (lo := 0) (n := b.toNat) (fun j H' => Same H3 H' ∧ ∃ zs, H' Lc = some (.lst zs) ∧ DpAll K H' zs ((((digits b).take j).map fun x => wd ++ [x]).map dI)) ⟨same_new hLc, [], upd_same, .nil⟩ ?_ ?_⟩
      · rintro j H4 hj ⟨s4, zs, hz, hzA⟩
        refine ⟨rfl, _, rfl, _, rfl, by show 1 ≤ sizeLine; decide, fun p1 hp1 => ?_⟩
        have s5 := s4.trans (same_new (o := .tup [V.int (0 + (j : Int))]) hp1)
        have h15 := upd_same (H := H4) (a := p1) (o := .tup [V.int (0 + (j : Int))])
        have hz5 := same_new (o := .tup [V.int (0 + (j : Int))]) hp1 _ _ hz
        have hzA5 := dpA_keep (keepT_new (o := .tup [V.int (0 + (j : Int))]) hp1) _ _ (noLs_I _) hzA
        generalize upd H4 p1 (.tup [V.int (0 + (j : Int))]) = H5 at s5 h15 hz5 hzA5
        have hdj := dig_at (base := b) hj
        have zl := dpA_len hzA5
        rw [List.length_map, List.length_map, List.length_take] at zl
        have fin : ∀ (H6 : Hp) (p : Addr), Same H5 H6 → SqT K H6 p ((wd ++ [0 + (j : Int)]).map V.int) → ∃ acc, H6 Lc = some (.lst acc) ∧ acc.length < sizeLine ∧ Same H3 (upd H6 Lc (.lst (acc ++ [.ref p]))) ∧ ∃ zs, upd H6 Lc (.lst (acc ++ [.ref p])) Lc = some (.lst zs) ∧ DpAll K (upd H6 Lc (.lst (acc ++ [.ref p]))) zs ((((digits b).take (j + 1)).map fun x => wd ++ [x]).map dI) := fun H6 p s6 hp => by
          have hz6 := s6 _ _ hz5
          have kc := keepT_nt (o := .lst (zs ++ [.ref p])) (nt_lst _) hz6
          refine ⟨zs, hz6, line6 (by omega), same_mut (s5.trans s6) hLc, zs ++ [.ref p], upd_same, ?_⟩
          rw [List.take_add_one, hdj, List.map_append, List.map_append]
          exact dpA_snoc (dpA_keep kc _ _ (noLs_I _) (dpA_keep (KeepT.of_same s6) _ _ (noLs_I _) hzA5)) (dp_keep kc _ _ (dI_noL _) (i_of hp))
        have hpw5 := sqt_keep (KeepT.of_same s5) hp3
        refine ⟨pw, p1, _, _, rfl, rfl, hpw5, SqT.of h15, by rw [List.length_map]; exact line5 (by show _ + 1 ≤ _; omega), fun e => ?_, fun _ e => (by cases e), fun _ _ p hp => ?_⟩
        · have : wd = [] := List.map_eq_nil_iff.mp e
          subst this
          exact fin H5 p1 (Same.refl _) (SqT.of h15)
        · exact fin _ p (same_new hp) (SqT.of (by rw [upd_same, List.map_append]; rfl))
      · rintro H4 ⟨s4, zs, hz, hzA⟩
        rw [List.take_of_length_le (by rw [dig_len]; exact Nat.le_refl _)] at hzA
        have zl := dpA_len hzA
        rw [List.length_map, List.length_map, dig_len] at zl
        have hA4 := dpA_keep (KeepT.of_same s4) _ _ (noLs_I ws) hA3
        have hE := dpA_erase v.toNat hA4
        refine ⟨Lw, Lc, _, zs, rfl, rfl, s4 _ _ hL3, hz, by rw [List.length_eraseIdx_of_lt hv]; exact line5 (by omega), fun Ln hLn => ?_⟩
        have s5 := same_new (o := .lst (xs.eraseIdx v.toNat ++ zs)) hLn
        have k5 := KeepT.of_same s5
        have hLnH : H Ln = none := by
          have g4 := g3.trans (Go.same g3.1 s4)
          exact g4.free d hLn
        have ee : (ws.map dI).eraseIdx v.toNat = (ws.eraseIdx v.toNat).map dI := by
          simp [List.eraseIdx_eq_take_drop_succ]
        rw [ee] at hE
        have wl : (ws.eraseIdx v.toNat).length + 1 = ws.length := by
          rw [List.length_eraseIdx_of_lt (by omega)]
          omega
        refine ⟨_, _, _, _, Ln, _, ws.eraseIdx v.toNat ++ (digits b).map fun x => wd ++ [x], rfl, g3.trans (Go.same g3.1 (s4.trans s5)), hLnH, upd_same, ?_, hc.open hw hw3, ?_, ?_⟩
        · rw [List.map_append]
          exact dpA_app (dpA_keep k5 _ _ (noLs_I _) hE) (dpA_keep k5 _ _ (noLs_I _) hzA)
        · rw [List.length_append, List.length_map, dig_len]
          omega
        · rw [List.length_append, List.length_map, dig_len]
          omega
    · rintro σ H1 ⟨y4, y5, y6, y7, Lw, xs, ws, rfl, g, hL0, hL, hA, hc, l0, l1⟩
      obtain ⟨z1, z2, z3⟩ := zip_dp hA
      refine ⟨_, rfl, Lw, xs.zip (ws.map dI), rfl, SqL.of (by rw [z1]; exact hL), z3, by rw [z2]; exact srt_words hc, fun ys p hy hp => ?_⟩
      have hperm : (ys.map (·.2)).Perm (ws.map dI) := by
        have := hy.map (fun b : V × PyData => b.2)
        rw [z2] at this
        exact this
      obtain ⟨ws', w1, w2⟩ := perm_back hperm
      have gp := Go.new (o := .lst (ys.map (·.1))) g.1 hp
      have hA' := dpA_of (bs := ys) fun b hb => z3 b (hy.mem_iff.mp hb)
      rw [w2] at hA'
      exact q _ p _ ws' (g.trans gp) (g.free d hp) upd_same (dpA_keep (Go.keepT g.1 gp) _ _ (noLs_I ws') hA') (hc.perm w1) (by rw [w1.length_eq]; exact l0) (by rw [w1.length_eq]; omega)
end
end Mt
namespace Mt
open PySem PySem.Spec PyProof.Rows L2
structure RwOk (base : Int) (n : Nat) (r : List Br) : Prop where
  ne : 0 < r.length
  few : r.length ≤ 20
  to : ∀ b ∈ r, b.2.2 < n ∧ b.2.1.length ≤ 6
  cm : Cmpl base (r.map (·.1))
structure ChnOk (base : Int) (C : Chn) : Prop where
  b2 : 2 ≤ base
  b6 : base ≤ 6
  pos : 0 < C.length
  few : C.length ≤ 50
  row : ∀ r ∈ C, RwOk base C.length r
def spWChain (K : PySem.W.Frag) : Sp := fun vs H Q _ => ∃ (S D m : Addr) (base n : Int) (ms : List Str), vs = [.ref D, .int base, .int n, .ref m] ∧ DrawAt S D H ∧ m ≠ D ∧ H m = some (.lst (ms.map V.str)) ∧ 0 < ms.length ∧ ms.length ≤ 100 ∧ 2 ≤ base ∧ base ≤ 6 ∧ 1 ≤ n ∧ n ≤ 50 ∧
  ∀ (H' : Hp) (v : V) (C : Chn), Go S D H H' → Dp K H' v (dChn base C) → ChnOk base C → C.length = n.toNat → Q v H'
def spRChain (K : PySem.W.Frag) : Sp := fun vs H Q _ => ∃ (S D m : Addr) (n : Int) (ms : List Str), vs = [.ref D, .ref m, .int n] ∧ DrawAt S D H ∧ m ≠ D ∧ H m = some (.lst (ms.map V.str)) ∧ 0 < ms.length ∧ ms.length ≤ 100 ∧ 1 ≤ n ∧ n ≤ 50 ∧
  ∀ (H' : Hp) (v : V) (base : Int) (C : Chn), Go S D H H' → Dp K H' v (dChn base C) → ChnOk base C → Q v H'
theorem noLs_br (r : List Br) : noLs (r.map dBr) = true := noLs_map _ _ fun b _ => dBr_noL b
theorem noLs_rw (C : Chn) : noLs (C.map dRw) = true := noLs_map _ _ fun r _ => dRw_noL r
section
variable {P : Program} {w : World} {K : PySem.W.Frag} {mg : Str → Option Value} {base : Heap}
theorem ok__law_wide_shown (T : Txt K mg) (D__law_pick : Kept P w K mg base 2 "_law_pick" ["d", "row"] (spPick K)) {f : Addr} {fd : FuncData} (F : FnP K "_law_wide_shown" s__law_wide_shown f fd) : FnOk P w K mg base CX0 3 f fd ["d", "marks"] (spShown K) := by
  refine F.ok sc__law_wide_shown (fun vs H Q E h => ?_) (fun cdv A outer s H vs Q E hr h => ?_)
  · obtain ⟨S, D, m, ms, rfl, _⟩ := h
    rfl
  · obtain ⟨S, D, m, ms, rfl, d, nD, hm, h0, h1, q⟩ := h
    refine ⟨_, PSs.nox (pss_one (ps_ret (pe_callTy (tupOfT (K := K) rfl) (by rfl) T.b_tuple (by decide +kernel) (pa_cons (pe_lc (own := [("k", 2)]) (g := (gName 2)) (tt := tYes) rfl sc__law_wide_shown.nd (pi_range1 (by rfl) T.b_range (pa_cons (pe_d D__law_pick (hr.mono (by decide)) (by rfl) (pa_cons (pv 0) (pa_cons (pe_lst (pa_cons pe_int (pa_cons pe_int (pa_cons pe_int (pa_cons pe_int (pa_cons pe_int (pa_cons pe_int (pa_cons pe_int (pa_cons pe_int (pa_cons pe_int pa_nil)))))))))) pa_nil))) pa_nil)) (blkOk_by (N := N__law_wide_shown) (sc := defScope s__law_wide_shown) (by decide +kernel)) (fun _ _ _ _ _ => (pg_name (i := 2) sc__law_wide_shown.nd rfl (Or.inl rfl))) (fun _ _ _ _ _ => pts_nil) (fun _ _ _ _ _ => (pe_d D__law_pick (hr.mono (by decide)) (by rfl) (pa_cons (pv 0) (pa_cons (pv 1) pa_nil))))) pa_nil)))), ?_⟩
    refine ⟨_, rfl, by show 9 ≤ sizeLine; decide, fun L hL => ?_⟩
    have d1 := d.new (o := .lst [V.int 0, .int 0, .int 1, .int 1, .int 1, .int 2, .int 2, .int 3, .int 6]) hL
    have LD := (d.free hL).1
    have g1 : Go S D H (upd H L (.lst [V.int 0, .int 0, .int 1, .int 1, .int 1, .int 2, .int 2, .int 3, .int 6])) := Go.new d hL
    refine ⟨S, D, .ref L, [V.int 0, .int 0, .int 1, .int 1, .int 1, .int 2, .int 2, .int 3, .int 6], rfl, d1, fun H' g => .inr (.inl ⟨L, rfl, SqL.of (g.2 _ _ upd_same LD)⟩), by decide, by decide, fun H2 x hx g2 => ?_⟩
    obtain ⟨n, rfl, hn⟩ : ∃ n : Nat, x = .int (n : Int) ∧ n ≤ 6 := by
      simp only [List.mem_cons, List.not_mem_nil, or_false] at hx
      rcases hx with e | e | e | e | e | e | e | e | e
      · exact ⟨0, e, by decide⟩
      · exact ⟨0, e, by decide⟩
      · exact ⟨1, e, by decide⟩
      · exact ⟨1, e, by decide⟩
      · exact ⟨1, e, by decide⟩
      · exact ⟨2, e, by decide⟩
      · exact ⟨2, e, by decide⟩
      · exact ⟨3, e, by decide⟩
      · exact ⟨6, e, by decide⟩
    have g3 := g1.trans g2
    refine ⟨_, rfl, by omega, by omega, fun Lc hLc => lc_range (lo := 0) (n := n) (fun j H' => ∃ ss : List Str, Go S D H2 H' ∧ H' Lc = some (.lst (ss.map V.str)) ∧ ss.length = j ∧ ∀ s ∈ ss, s ∈ ms) ⟨[], Go.new g3.1 hLc, upd_same, rfl, fun _ h => absurd h List.not_mem_nil⟩ ?_ ?_⟩
    · rintro j H4 hj ⟨ss, g4, hL4, hl, hs⟩
      have LcD := (g3.1.free hLc).1
      refine ⟨rfl, _, rfl, _, rfl, S, D, .ref m, ms.map V.str, rfl, g4.1, fun H' g' => .inr (.inl ⟨m, rfl, SqL.of (((g3.trans g4).trans g').2 _ _ hm nD)⟩), by rw [List.length_map]; exact h0, by rw [List.length_map]; omega, fun H5 x hx g5 => ?_⟩
      obtain ⟨z, hz, rfl⟩ := List.mem_map.mp hx
      refine ⟨_, g5.2 _ _ hL4 LcD, by rw [List.length_map]; exact line6 (by omega), ss ++ [z], goU hLc g3.1 (g4.trans g5), by rw [upd_same, List.map_append]; rfl, by rw [List.length_append, List.length_singleton, hl], fun s h => ?_⟩
      rcases List.mem_append.mp h with h | h
      · exact hs s h
      · rw [List.mem_singleton.mp h]
        exact hz
    · rintro H4 ⟨ss, g4, hL4, hl, hs⟩
      refine ⟨Lc, _, rfl, .inl ⟨SqL.of hL4, fun p hp => ?_⟩⟩
      have g5 := g3.trans g4
      exact q _ p ss (g5.trans (Go.new g5.1 hp)) (g5.free d hp) upd_same hs (by omega)
theorem ok__law_wide_chain (T : Txt K mg) (D__law_draw : Kept P w K mg base 1 "_law_draw" ["d", "many"] spDraw) (D__law_words : Kept P w K mg base 2 "_law_words" ["d", "base", "many"] (spWords K)) (D__law_wide_shown : Kept P w K mg base 3 "_law_wide_shown" ["d", "marks"] (spShown K)) {f : Addr} {fd : FuncData} (F : FnP K "_law_wide_chain" s__law_wide_chain f fd) : FnOk P w K mg base CX0 4 f fd ["d", "base", "states", "marks"] (spWChain K) := by
  refine F.ok sc__law_wide_chain (fun vs H Q E h => ?_) (fun cdv A outer s H vs Q E hr h => ?_)
  · obtain ⟨S, D, m, b, n, ms, rfl, _⟩ := h
    rfl
  · obtain ⟨S, D, m, b, n, ms, rfl, d, nD, hm, h0, h1, b2, b6, n1, n2, q⟩ := h
    refine ⟨_, PSs.nox (pss_cons (ps_set (i := 4) sc__law_wide_chain.nd rfl (Or.inl rfl) (pe_lst pa_nil))
      (pss_cons (ps_for PassesOwn.never rfl (pi_range1 (by rfl) T.b_range (pa_cons (pv 2) pa_nil)) (pg_name (i := 5) sc__law_wide_chain.nd rfl (Or.inl rfl)) (pss_cons (ps_set (i := 6) sc__law_wide_chain.nd rfl (Or.inl rfl) (pe_lst pa_nil))
      (pss_cons (ps_for PassesOwn.never rfl (pi_list (pe_d D__law_words (hr.mono (by decide)) (by rfl) (pa_cons (pv 0) (pa_cons (pv 1) (pa_cons (pe_d D__law_draw (hr.mono (by decide)) (by rfl) (pa_cons (pv 0) (pa_cons pe_int pa_nil))) pa_nil))))) (pg_name (i := 7) sc__law_wide_chain.nd rfl (Or.inl rfl)) (pss_one (ps_expr (pe_bm PySem.F.plainAttrs_list PySem.F.slot_list_append PySem.F.type_list_append mt_append (pv 6) (pa_cons (pe_tup (pa_cons (pv 7) (pa_cons (pe_d D__law_wide_shown (hr.mono (by decide)) (by rfl) (pa_cons (pv 0) (pa_cons (pv 3) pa_nil))) (pa_cons (pe_d D__law_draw (hr.mono (by decide)) (by rfl) (pa_cons (pv 0) (pa_cons (pv 2) pa_nil))) pa_nil)))) pa_nil)))))
      (pss_one (ps_expr (pe_bm PySem.F.plainAttrs_list PySem.F.slot_list_append PySem.F.type_list_append mt_append (pv 4) (pa_cons (pe_callTy (tupOfT (K := K) rfl) (by rfl) T.b_tuple (by decide +kernel) (pa_cons (pv 6) pa_nil)) pa_nil)))))))
      (pss_one (ps_ret (pe_tup (pa_cons pe_str (pa_cons (pv 1) (pa_cons (pe_callTy (tupOfT (K := K) rfl) (by rfl) T.b_tuple (by decide +kernel) (pa_cons (pv 4) pa_nil)) pa_nil)))))))), ?_⟩
    refine ⟨Nat.zero_le _, fun L hL => ?_⟩
    have g1 := Go.new (o := .lst []) d hL
    have LD := (d.free hL).1
    refine ⟨_, rfl, _, rfl, by omega, by omega, for_range (lo := 0) (n := n.toNat) (fun i σ H' => ∃ (y5 y6 y7 : Option V) (zs : List V) (C : Chn), σ = [some (.ref D), some (.int b), some (.int n), some (.ref m), some (.ref L), y5, y6, y7] ∧ Go S D H H' ∧ H' L = some (.lst zs) ∧ DpAll K H' zs (C.map dRw) ∧ C.length = i ∧ ∀ r ∈ C, RwOk b n.toNat r) ⟨_, _, _, [], [], rfl, g1, upd_same, .nil, rfl, fun _ h => absurd h List.not_mem_nil⟩ ?_ ?_⟩
    · rintro i σ H1 hi ⟨y5, y6, y7, zs, C, rfl, g, hL1, hzs, hC, hCr⟩
      have zl := dpA_len hzs
      rw [List.length_map] at zl
      refine ⟨Nat.zero_le _, fun f hf => ?_⟩
      have gf := Go.new (o := .lst []) g.1 hf
      have fD := (g.1.free hf).1
      have fL : f ≠ L := (ne_of_none hL1 hf).symm
      have hf2 := upd_same (H := H1) (a := f) (o := .lst [])
      generalize upd H1 f (.lst []) = H2 at gf hf2
      refine ⟨_, rfl, _, rfl, _, rfl, S, D, 3, rfl, divW_of (by decide) (by decide), gf.1, fun H3 mm m0 m1 g3 => ⟨S, D, b, mm, rfl, g3.1, b2, b6, m0, by omega, fun H4 Lw xs ws g4 hLw0 hLw hA hc w0 w1 => ?_⟩⟩
      have g34 := gf.trans (g3.trans g4)
      have LwD := (g3.1.free hLw0).1
      have hf4 := (g3.trans g4).2 _ _ hf2 fD
      have LwF : Lw ≠ f := fun e => by
        rw [e, g3.2 _ _ hf2 fD] at hLw0
        cases hLw0
      have xl := dpA_len hA
      rw [List.length_map] at xl
      refine ⟨Lw, rfl, ⟨_, SqL.of hLw⟩, for_list (K := K) (a := Lw) (xs := xs) (fun j σ H' => ∃ (y7 : Option V) (qs : List V) (r : List Br), σ = [some (.ref D), some (.int b), some (.int n), some (.ref m), some (.ref L), some (.int (0 + (i : Int))), some (.ref f), y7] ∧ Go S D H1 H' ∧ H' Lw = some (.lst xs) ∧ DpAll K H' xs (ws.map dI) ∧ H' f = some (.lst qs) ∧ DpAll K H' qs (r.map dBr) ∧ r.map (·.1) = ws.take j ∧ ∀ b ∈ r, b.2.2 < n.toNat ∧ b.2.1.length ≤ 6) ⟨_, [], [], rfl, g34, hLw, hA, hf4, .nil, rfl, fun _ h => absurd h List.not_mem_nil⟩ (fun i σ H' _ ⟨_, _, _, _, _, h, _⟩ => SqL.of h) ?_ ?_⟩
      · rintro j x σ H5 hj ⟨y7, qs, r, rfl, g5, hLw5, hA5, hf5, hr5, er, hrr⟩
        obtain ⟨wd, hw, hx⟩ := dpA_mem hA5 hj
        have jl := (List.getElem?_eq_some_iff.mp hj).1
        refine ⟨_, rfl, .inl ⟨rfl, _, SqL.of hf5⟩, _, rfl, _, rfl, _, rfl, S, D, m, ms, rfl, g5.1, nD, (g.trans g5).2 _ _ hm nD, h0, h1, fun H6 p ss g6 hp0 hp hss hsl => ?_⟩
        have pD := (g5.1.free hp0).1
        refine ⟨_, rfl, _, rfl, S, D, n, rfl, divW_of (by omega) (by omega), g6.1, fun H7 t t0 t1 g7 => ⟨by show 3 ≤ sizeLine; decide, fun pb hpb => ?_⟩⟩
        have g67 := g6.trans g7
        have gb := g67.trans (Go.new (o := .tup [x, .ref p, .int t]) g7.1 hpb)
        have hpb8 := upd_same (H := H7) (a := pb) (o := .tup [x, .ref p, .int t])
        have hp8 := same_new (o := .tup [x, .ref p, .int t]) hpb _ _ (g7.2 _ _ hp pD)
        generalize upd H7 pb (.tup [x, .ref p, .int t]) = H8 at gb hpb8 hp8
        have k8 := Go.keepT g5.1 gb
        have hf8 := gb.2 _ _ hf5 fD
        have kf := keepT_nt (o := .lst (qs ++ [.ref pb])) (nt_lst _) hf8
        have ql := dpA_len hr5
        rw [List.length_map] at ql
        have rl : r.length = j := by
          have := congrArg List.length er
          rw [List.length_map, List.length_take] at this
          omega
        have dB : Dp K H8 (.ref pb) (dBr (wd, ss, t.toNat)) := by
          have e1 : PyData.int ((t.toNat : Nat) : Int) = .int t := by rw [Int.toNat_of_nonneg t0]
          show Dp K H8 (.ref pb) (.tuple [dI wd, dSh ss, .int ((t.toNat : Nat) : Int)])
          rw [e1]
          exact .tup (SqT.of hpb8) (.cons (dp_keep k8 _ _ (dI_noL wd) hx) (.cons (sh_of (SqT.of hp8)) (.cons (.int _) .nil)))
        refine ⟨f, qs, _, rfl, rfl, hf8, line6 (by omega), _, qs ++ [.ref pb], r ++ [(wd, ss, t.toNat)], rfl, goU hf g.1 (g5.trans gb), ?_, dpA_keep kf _ _ (noLs_I ws) (dpA_keep k8 _ _ (noLs_I ws) hA5), upd_same, ?_, ?_, fun y hy => ?_⟩
        · rw [upd_ne LwF]
          exact gb.2 _ _ hLw5 LwD
        · rw [List.map_append]
          exact dpA_snoc (dpA_keep kf _ _ (noLs_br r) (dpA_keep k8 _ _ (noLs_br r) hr5)) (dp_keep kf _ _ (dBr_noL _) dB)
        · rw [List.map_append, er, List.take_add_one, hw]
          rfl
        · rcases List.mem_append.mp hy with h | h
          · exact hrr y h
          · rw [List.mem_singleton.mp h]
            exact ⟨by show t.toNat < n.toNat; omega, hsl⟩
      · rintro σ H5 ⟨y7, qs, r, rfl, g5, hLw5, hA5, hf5, hr5, er, hrr⟩
        rw [xl, List.take_length] at er
        have rl : r.length = ws.length := by
          rw [← er, List.length_map]
        have gg := g.trans g5
        have hL5 := g5.2 _ _ hL1 LD
        refine ⟨_, rfl, .inl ⟨rfl, _, SqL.of hL5⟩, _, rfl, f, qs, rfl, .inl ⟨SqL.of hf5, fun pr hpr => ?_⟩⟩
        have gp := Go.new (o := .tup qs) g5.1 hpr
        have kp := Go.keepT g5.1 gp
        have hpr6 := upd_same (H := H5) (a := pr) (o := .tup qs)
        have hL6 := gp.2 _ _ hL5 LD
        generalize upd H5 pr (.tup qs) = H6 at gp kp hpr6 hL6
        have kL := keepT_nt (o := .lst (zs ++ [.ref pr])) (nt_lst _) hL6
        refine ⟨L, zs, _, rfl, rfl, hL6, line6 (by omega), _, _, _, zs ++ [.ref pr], C ++ [r], rfl, goU hL d (gg.trans gp), upd_same, ?_, by rw [List.length_append, hC]; rfl, fun x hx => ?_⟩
        · rw [List.map_append]
          exact dpA_snoc (dpA_keep kL _ _ (noLs_rw C) (dpA_keep (Go.keepT g.1 (g5.trans gp)) _ _ (noLs_rw C) hzs)) (dp_keep kL _ _ (dRw_noL _) (.tup (SqT.of hpr6) (dpA_keep kp _ _ (noLs_br r) hr5)))
        · rcases List.mem_append.mp hx with h | h
          · exact hCr x h
          · rw [List.mem_singleton.mp h]
            exact ⟨by omega, by omega, hrr, by rw [er]; exact hc⟩
    · rintro σ H1 ⟨y5, y6, y7, zs, C, rfl, g, hL1, hzs, hC, hCr⟩
      refine ⟨_, rfl, _, rfl, L, zs, rfl, .inl ⟨SqL.of hL1, fun pq hpq => ⟨by show 3 ≤ sizeLine; decide, fun pw hpw => ?_⟩⟩⟩
      have gq := Go.new (o := .tup zs) g.1 hpq
      have gw := gq.trans (Go.new (o := .tup [.str "chain", .int b, .ref pq]) gq.1 hpw)
      have hpq2 := same_new (o := .tup [.str "chain", .int b, .ref pq]) hpw _ _ (upd_same (H := H1) (a := pq) (o := .tup zs))
      refine q _ _ C (g.trans gw) (.tup (SqT.of upd_same) (.cons (.str _) (.cons (.int _) (.cons (.tup (SqT.of hpq2) (dpA_keep (Go.keepT g.1 gw) _ _ (noLs_rw C) hzs)) .nil)))) ⟨b2, b6, by omega, by omega, fun r hr => ?_⟩ hC
      rw [hC]
      exact hCr r hr
end
end Mt
namespace Mt
open PySem PySem.Spec PyProof.Rows L2
theorem getElem?_lt {α : Type} {l : List α} {i : Nat} (h : i < l.length) : l[i]? = some (l[i]'h) := List.getElem?_eq_getElem h
mutual
theorem dp_same {K : PySem.W.Frag} {H H' : Hp} (s : Same H H') : ∀ (d : PyData) (v : V), Dp K H v d → Dp K H' v d
  | .none, _, h => by
    cases h
    exact .non
  | .bool b, _, h => by
    cases h
    exact .bl b
  | .int i, _, h => by
    cases h
    exact .int i
  | .str x, _, h => by
    cases h
    exact .str x
  | .list ds, _, h => by
    cases h with
    | lst h1 h2 => exact .lst (same_l s h1) (dpA_same s ds _ h2)
  | .dict ds, n, h => by
    cases h
  | .tuple ds, _, h => by
    cases h with
    | tup h1 h2 => exact .tup (same_t s h1) (dpA_same s ds _ h2)
theorem dpA_same {K : PySem.W.Frag} {H H' : Hp} (s : Same H H') : ∀ (ds : List PyData) (xs : List V), DpAll K H xs ds → DpAll K H' xs ds
  | [], _, h => by
    cases h
    exact .nil
  | d :: ds, _, h => by
    cases h with
    | cons h1 h2 => exact .cons (dp_same s d _ h1) (dpA_same s ds _ h2)
end
theorem dp_lst {K : PySem.W.Frag} {H : Hp} {v : V} {ds : List PyData} (h : Dp K H v (.list ds)) : ∃ a xs, v = .ref a ∧ SqL K H a xs ∧ DpAll K H xs ds := by
  cases h with
  | lst h1 h2 => exact ⟨_, _, rfl, h1, h2⟩
theorem piTK {X : Cx} {K : PySem.W.Frag} {e tg : Expr} {te : TE} (h : X.K = K) (he : PE X e te) : PI X tg e (iTup K te) := h ▸ pi_tup he
theorem same_upd {H H' : Hp} {L : Addr} {o : HO} (s : Same H H') : Same (upd H L o) (upd H' L o) := fun b u e => by
  by_cases k : b = L
  · subst k
    rw [upd_same] at e ⊢
    exact e
  · rw [upd_ne k] at e ⊢
    exact s b u e
theorem upd_self {H : Hp} {p : Addr} {o : HO} (h : H p = some o) : upd H p o = H := by
  funext x
  by_cases k : x = p
  · subst k
    rw [upd_same, h]
  · rw [upd_ne k]
/-- a list of lists that is being filled: what it holds stands whatever stands at its own place -/
structure FL (K : PySem.W.Frag) (L : Addr) (H : Hp) (ds : List PyData) : Prop where
  d : ∃ zs, H L = some (.lst zs) ∧ zs.length = ds.length ∧ ∀ o, DpAll K (upd H L o) zs ds
theorem FL.nil {K : PySem.W.Frag} {L : Addr} {H : Hp} (h : H L = none) : FL K L (upd H L (.lst [])) [] := ⟨[], upd_same, rfl, fun _ => .nil⟩
theorem FL.dp {K : PySem.W.Frag} {L : Addr} {H : Hp} {ds : List PyData} (f : FL K L H ds) : Dp K H (.ref L) (.list ds) := by
  obtain ⟨zs, h1, _, h2⟩ := f.d
  have := h2 (.lst zs)
  rw [upd_self h1] at this
  exact .lst (SqL.of h1) this
theorem FL.same {K : PySem.W.Frag} {L : Addr} {H H' : Hp} {ds : List PyData} (f : FL K L H ds) (s : Same H H') : FL K L H' ds := by
  obtain ⟨zs, h1, h3, h2⟩ := f.d
  exact ⟨zs, s _ _ h1, h3, fun o => dpA_same (same_upd s) _ _ (h2 o)⟩
theorem FL.add {K : PySem.W.Frag} {L : Addr} {H : Hp} {ds : List PyData} {zs : List V} {v : V} {d : PyData} (f : FL K L H ds) (h : H L = some (.lst zs)) (hd : ∀ o, Dp K (upd H L o) v d) : FL K L (upd H L (.lst (zs ++ [v]))) (ds ++ [d]) := by
  obtain ⟨zs', h1, h3, h2⟩ := f.d
  rw [h] at h1
  cases h1
  refine ⟨_, upd_same, by rw [List.length_append, List.length_append, h3]; rfl, fun o => ?_⟩
  rw [upd_upd]
  exact dpA_snoc (h2 o) (hd o)
theorem piLK {X : Cx} {K : PySem.W.Frag} {e tg : Expr} {te : TE} (h : X.K = K) (he : PE X e te) : PI X tg e (iList K te) := h ▸ pi_list he
theorem dI_canAll : ∀ l : List Int, PyData.canLayAll0 (l.map PyData.int) = true
  | [] => rfl
  | x :: r => by
    show (PyData.canLay0 (.int x) && PyData.canLayAll0 (r.map PyData.int)) = true
    rw [dI_canAll r]
    rfl
theorem dI_dep : ∀ l : List Int, PyData.depthAll (l.map PyData.int) = 0
  | [] => rfl
  | x :: r => by
    show max (PyData.depth (.int x)) (PyData.depthAll (r.map PyData.int)) = 0
    rw [dI_dep r]
    rfl
theorem dI_lay (l : List Int) : PyData.canLay0 (dI l) = true := dI_canAll l
theorem dI_sh (l : List Int) : SeqAt.shaped (dI l) = true := by
  unfold SeqAt.shaped
  rw [Bool.and_eq_true]
  refine ⟨dI_lay l, decide_eq_true ?_⟩
  show PyData.depthAll (l.map PyData.int) + 1 ≤ 64
  rw [dI_dep]
  decide
theorem eqv_ints : ∀ a b : List Int, PyData.eqvAll (a.map PyData.int) (b.map PyData.int) = decide (a = b)
  | [], [] => rfl
  | [], _ :: _ => rfl
  | _ :: _, [] => rfl
  | x :: a, y :: b => by
    show (PyData.eqv (.int x) (.int y) && PyData.eqvAll (a.map PyData.int) (b.map PyData.int)) = decide (x :: a = y :: b)
    rw [eqv_ints a b]
    show (decide (x = y) && decide (a = b)) = _
    by_cases h1 : x = y <;> by_cases h2 : a = b <;> simp [h1, h2]
theorem eqv_I (a b : List Int) : PyData.eqv (dI a) (dI b) = decide (a = b) := eqv_ints a b
theorem take_snoc {α : Type} {l : List α} {i : Nat} {x : α} (h : l[i]? = some x) : l.take (i + 1) = l.take i ++ [x] := by
  rw [List.take_add_one, h]
  rfl
theorem cut_any {l : List Int} {k m : Nat} (h : k ≤ l.length) : cutV (l.map V.int) (some (k : Int)) (some ((k : Int) + (m : Int))) = ((l.drop k).take m).map V.int := by
  unfold cutV
  rw [HT.sIx_nat, ← Int.natCast_add, HT.sIx_nat, List.length_map, Nat.min_eq_left h, ← List.map_drop, ← List.map_take]
  congr 1
  by_cases e : k + m ≤ l.length
  · rw [Nat.min_eq_left e, Nat.add_sub_cancel_left]
  · rw [Nat.min_eq_right (by omega), List.take_of_length_le (by rw [List.length_drop]; exact Nat.le_refl _), List.take_of_length_le (by rw [List.length_drop]; omega)]
/-! ### one step of a walk -/
def fits (t : List Int) (b : Br) : Bool := decide (t.take b.1.length = b.1)
def nextB (r : List Br) (t : List Int) : Option Br := r.find? (fits t)
def rowOf (C : Chn) (s : Nat) : List Br := (C[s]?).getD []
theorem rowOf_at {C : Chn} {s : Nat} (h : s < C.length) : C[s]? = some (rowOf C s) := by
  unfold rowOf
  rw [List.getElem?_eq_getElem h]
  rfl
def wk (C : Chn) (tape : List Int) : Nat → Option (List (List Str) × Nat × Nat)
  | 0 => some ([], 0, 0)
  | n + 1 => (wk C tape n).bind fun x => (nextB (rowOf C x.2.1) (tape.drop x.2.2)).map fun b => (x.1 ++ [b.2.1], b.2.2, x.2.2 + b.1.length)
theorem fits_pre {t : List Int} {b : Br} : fits t b = true ↔ b.1 <+: t := by
  unfold fits
  rw [decide_eq_true_iff, List.prefix_iff_eq_take]
  exact eq_comm
def spBranch (K : PySem.W.Frag) : Sp := fun vs H Q _ => ∃ (vr vt : V) (k : Nat) (r : List Br) (tape : List Int) (b : Br), vs = [vr, vt, .int k] ∧ Dp K H vr (dRw r) ∧ (∀ b ∈ r, b.1.length ≤ 3) ∧ r.length ≤ 100 ∧ Dp K H vt (dI tape) ∧ k ≤ tape.length ∧ tape.length ≤ 100000 ∧ nextB r (tape.drop k) = some b ∧
  ∀ H' v, Same H H' → Dp K H' v (dBr b) → Q v H'
def spWalk (K : PySem.W.Frag) : Sp := fun vs H Q _ => ∃ (vc vt : V) (n : Nat) (base : Int) (C : Chn) (tape : List Int) (w : List (List Str) × Nat × Nat), vs = [vc, vt, .int n] ∧ Dp K H vc (dChn base C) ∧ ChnOk base C ∧ Dp K H vt (dI tape) ∧ n ≤ 10000 ∧ tape.length ≤ 100000 ∧ wk C tape n = some w ∧
  ∀ H' v, Same H H' → Dp K H' v (.tuple [.tuple (w.1.map dSh), .int w.2.1, .int w.2.2]) → Q v H'
theorem noLs_sh (l : List (List Str)) : noLs (l.map dSh) = true := noLs_map _ _ fun s _ => dSh_noL s
/-- a walk stays in the chain, on the tape, and tells as many as its ticks -/
theorem wk_ok {base : Int} {C : Chn} (ok : ChnOk base C) {tape : List Int} : ∀ (n : Nat) (w : List (List Str) × Nat × Nat), wk C tape n = some w → w.1.length = n ∧ w.2.1 < C.length ∧ w.2.2 ≤ tape.length
  | 0, w, h => by
    cases h
    exact ⟨rfl, ok.pos, Nat.zero_le _⟩
  | n + 1, w, h => by
    obtain ⟨x, hx, h⟩ := Option.bind_eq_some_iff.mp h
    obtain ⟨b, hb, rfl⟩ := Option.map_eq_some_iff.mp h
    obtain ⟨h1, h2, h3⟩ := wk_ok ok n x hx
    have hm := List.mem_of_find?_eq_some hb
    have hf := fits_pre.mp (List.find?_some hb)
    have hl := hf.length_le
    rw [List.length_drop] at hl
    refine ⟨?_, ?_, ?_⟩
    · show (x.1 ++ [b.2.1]).length = n + 1
      rw [List.length_append, h1]
      rfl
    · exact ((ok.row _ (List.mem_of_getElem? (rowOf_at h2))).to b hm).1
    · show x.2.2 + b.1.length ≤ tape.length
      omega
theorem wk_pre {C : Chn} {tape : List Int} {n : Nat} {w : List (List Str) × Nat × Nat} (h : wk C tape n = some w) : ∀ i ≤ n, ∃ x, wk C tape i = some x := fun i hi => by
  induction n generalizing w with
  | zero =>
    obtain rfl : i = 0 := by omega
    exact ⟨_, h⟩
  | succ n ih =>
    by_cases e : i = n + 1
    · subst e
      exact ⟨_, h⟩
    · obtain ⟨x, hx, _⟩ := Option.bind_eq_some_iff.mp h
      exact ih hx (by omega)
section
variable {P : Program} {w : World} {K : PySem.W.Frag} {mg : Str → Option Value} {base : Heap}
theorem ok_branch_at (T : Txt K mg) {f : Addr} {fd : FuncData} (F : FnP K "branch_at" s_branch_at f fd) : FnOk P w K mg base CX0 1 f fd ["row", "tape", "at"] (spBranch K) := by
  refine F.ok sc_branch_at (fun vs H Q E h => ?_) (fun cdv A outer s H vs Q E hr h => ?_)
  · obtain ⟨vr, vt, k, r, tape, b, rfl, _⟩ := h
    rfl
  · obtain ⟨vr, vt, k, r, tape, b, rfl, hR, hs, hrl, ht, hk, hl, hnx, q⟩ := h
    refine ⟨_, PSs.nox (pss_cons (ps_for PassesOwn.never rfl (pi_tup (pv 0)) (pg_name (i := 3) sc_branch_at.nd rfl (Or.inl rfl)) (pss_one (ps_if (pt_cmpR (op_eqD (hr.units)) (pe_slice sl_tupA (pv 1) (po_some (pv 2)) (po_some (pe_op op_add (pv 2) (pe_callB call_len (by rfl) T.b_len (by decide +kernel) (pa_cons (pe_ix ix_tup (pv 3) pe_int (fun _ _ => rfl)) pa_nil))))) (pe_ix ix_tup (pv 3) pe_int (fun _ _ => rfl)) (nomark _)) (pss_one (ps_ret (pv 3))) pss_nil)))
      (pss_one ps_never)), ?_⟩
    obtain ⟨pr, rs, rfl, hpr, hrs⟩ := dp_tup hR
    have rl := dpA_len hrs
    rw [List.length_map] at rl
    obtain ⟨pt, rfl, hpt⟩ := i_at ht
    refine ⟨_, rfl, pr, rfl, ⟨_, hpr⟩, for_tup (K := K) (a := pr) (xs := rs) (fun i σ H' => ∃ y3 : Option V, σ = [some (.ref pr), some (.ref pt), some (.int k), y3] ∧ Same H H' ∧ (r.drop i).find? (fits (tape.drop k)) = some b) ⟨_, rfl, Same.refl _, hnx⟩ (fun i σ H' _ ⟨_, _, s, _⟩ => same_t s hpr) ?_ ?_⟩
    · rintro i x σ H1 hi ⟨y3, rfl, s1, hno⟩
      obtain ⟨br, hbr, hx⟩ := dpA_mem (dpA_same s1 _ _ hrs) hi
      obtain ⟨pb, x0, x1, rfl, hpb, hd0, hd1⟩ := br_at hx
      obtain ⟨p0, rfl, hp0⟩ := i_at hd0
      have il := (List.getElem?_eq_some_iff.mp hbr).1
      have ec := cut_any (l := tape) (k := k) (m := br.1.length) hk
      have hdr : r.drop i = br :: r.drop (i + 1) := by
        rw [List.drop_eq_getElem_cons il]
        congr 1
        rw [List.getElem?_eq_getElem il] at hbr
        exact Option.some.inj hbr
      rw [hdr] at hno
      have fin : ∀ (H2 : Hp) (p : Addr), Same H1 H2 → SqT K H2 p (((tape.drop k).take br.1.length).map V.int) → ∃ d e, Dp K H2 (.ref p) d ∧ Dp K H2 (.ref p0) e ∧ SeqAt.shaped d = true ∧ SeqAt.shaped e = true ∧ PyData.eqv d e = fits (tape.drop k) br := fun H2 p s2 hp =>
        ⟨_, _, i_of hp, dp_same s2 _ _ hd0, dI_sh _, dI_sh _, eqv_I _ _⟩
      have found : fits (tape.drop k) br = true → br = b := fun h => by
        rw [List.find?_cons_of_pos h] at hno
        exact Option.some.inj hno
      have on : ¬ fits (tape.drop k) br = true → (r.drop (i + 1)).find? (fits (tape.drop k)) = some b := fun h => by
        rw [List.find?_cons_of_neg h] at hno
        exact hno
      refine ⟨_, rfl, _, rfl, _, rfl, _, rfl, _, rfl, pb, _, _, _, rfl, rfl, hpb, atI_nat (j := 0) rfl, _, _, rfl, .inr ⟨_, hp0, rfl⟩, _, _, rfl, rfl, _, rfl, pt, _, rfl, same_t s1 hpt, fun hwh => ?_, fun _ p hp => ?_⟩
      · rw [HT.sIx_nat, List.length_map, ← Int.natCast_add, HT.sIx_nat, List.length_map] at hwh
        have e1 : (tape.drop k).take br.1.length = tape := by
          by_cases k0 : k = 0
          · rw [k0, List.drop_zero]
            exact List.take_of_length_le (by omega)
          · have : tape = [] := List.length_eq_zero_iff.mp (by omega)
            rw [this]
            simp
        obtain ⟨d, e, f1, f2, f3, f4, f5⟩ := fin _ pt (Same.refl _) (by rw [e1]; exact same_t s1 hpt)
        refine ⟨_, rfl, pb, _, _, _, rfl, rfl, hpb, atI_nat (j := 0) rfl, d, e, f1, f2, f3, f4, _, rfl, ?_⟩
        rw [f5]
        exact ite2 (fun h => ⟨_, rfl, q _ _ s1 (found h ▸ hx)⟩) (fun hne => ⟨_, rfl, s1, on hne⟩)
      · rw [List.length_map, ec]
        have s2 := same_new (o := .tup (((tape.drop k).take br.1.length).map V.int)) hp
        obtain ⟨d, e, f1, f2, f3, f4, f5⟩ := fin _ p s2 (SqT.of upd_same)
        refine ⟨_, rfl, pb, _, _, _, rfl, rfl, same_t s2 hpb, atI_nat (j := 0) rfl, d, e, f1, f2, f3, f4, _, rfl, ?_⟩
        rw [f5]
        exact ite2 (fun h => ⟨_, rfl, q _ _ (s1.trans s2) (found h ▸ dp_same s2 _ _ hx)⟩) (fun hne => ⟨_, rfl, s1.trans s2, on hne⟩)
    · rintro σ H1 ⟨y3, rfl, s1, hno⟩
      rw [rl, List.drop_length] at hno
      cases hno
theorem ok_walk (T : Txt K mg) (D_branch_at : Kept P w K mg base 1 "branch_at" ["row", "tape", "at"] (spBranch K)) {f : Addr} {fd : FuncData} (F : FnP K "walk" s_walk f fd) : FnOk P w K mg base CX0 2 f fd ["chain", "tape", "ticks"] (spWalk K) := by
  refine F.ok sc_walk (fun vs H Q E h => ?_) (fun cdv A outer s H vs Q E hr h => ?_)
  · obtain ⟨vc, vt, n, b, C, tape, w, rfl, _⟩ := h
    rfl
  · obtain ⟨vc, vt, n, b, C, tape, w, rfl, hC, ok, ht, hn, hl, hw, q⟩ := h
    refine ⟨_, PSs.nox (pss_cons (ps_set (i := 3) sc_walk.nd rfl (Or.inl rfl) (pe_ix ix_tup (pv 0) pe_int (fun _ _ => rfl)))
      (pss_cons (ps_set (i := 4) sc_walk.nd rfl (Or.inl rfl) pe_int)
      (pss_cons (ps_set (i := 5) sc_walk.nd rfl (Or.inl rfl) pe_int)
      (pss_cons (ps_set (i := 6) sc_walk.nd rfl (Or.inl rfl) (pe_lst pa_nil))
      (pss_cons (ps_for PassesOwn.never rfl (pi_range1 (by rfl) T.b_range (pa_cons (pv 2) pa_nil)) (pg_name (i := 7) sc_walk.nd rfl (Or.inl rfl)) (pss_cons (ps_asg (pe_d D_branch_at (hr.mono (by decide)) (by rfl) (pa_cons (pe_ix ix_tup (pv 3) (pv 4) (fun _ _ => rfl)) (pa_cons (pv 1) (pa_cons (pv 5) pa_nil)))) (pg_tup rfl (pgs_cons (pg_name (i := 8) sc_walk.nd rfl (Or.inl rfl)) (pgs_cons (pg_name (i := 9) sc_walk.nd rfl (Or.inl rfl)) (pgs_cons (pg_name (i := 4) sc_walk.nd rfl (Or.inl rfl)) pgs_nil)))))
      (pss_cons (ps_expr (pe_bm PySem.F.plainAttrs_list PySem.F.slot_list_append PySem.F.type_list_append mt_append (pv 6) (pa_cons (pv 9) pa_nil)))
      (pss_one (ps_aug (i := 5) sc_walk.nd rfl (Or.inl rfl) (pe_callB call_len (by rfl) T.b_len (by decide +kernel) (pa_cons (pv 8) pa_nil)) ip_add)))))
      (pss_one (ps_ret (pe_tup (pa_cons (pe_callTy call_tuple_of (by rfl) T.b_tuple (by decide +kernel) (pa_cons (pv 6) pa_nil)) (pa_cons (pv 4) (pa_cons (pv 5) pa_nil))))))))))), ?_⟩
    obtain ⟨pc, pq, xs, rfl, hpc, hpq, hA⟩ := chn_at hC
    have xl := dpA_len hA
    rw [List.length_map] at xl
    refine ⟨_, rfl, pc, _, _, _, rfl, rfl, hpc, atI_nat (j := 2) rfl, Nat.zero_le _, fun L hL => ?_⟩
    have s1 := same_new (o := .lst []) hL
    have hL1 := upd_same (H := H) (a := L) (o := .lst [])
    generalize upd H L (.lst []) = H1 at s1 hL1
    refine ⟨_, rfl, _, rfl, by omega, by omega, for_range (lo := 0) (n := n) (fun i σ H' => ∃ (x : List (List Str) × Nat × Nat) (y7 y8 y9 : Option V) (zs : List V), σ = [some (.ref pc), some vt, some (.int n), some (.ref pq), some (.int x.2.1), some (.int x.2.2), some (.ref L), y7, y8, y9] ∧ Same H H' ∧ H' L = some (.lst zs) ∧ DpAll K H' zs (x.1.map dSh) ∧ wk C tape i = some x) ⟨([], 0, 0), _, _, _, [], rfl, s1, hL1, .nil, rfl⟩ ?_ ?_⟩
    · rintro i σ H2 hi ⟨x, y7, y8, y9, zs, rfl, s2, hL2, hzs, hx⟩
      obtain ⟨xl1, hst, hrd⟩ := wk_ok ok i x hx
      obtain ⟨x', hx'⟩ := wk_pre hw (i + 1) hi
      obtain ⟨x2, hx2, hb⟩ := Option.bind_eq_some_iff.mp hx'
      rw [hx] at hx2
      obtain rfl := Option.some.inj hx2
      obtain ⟨br, hnb, hx3⟩ := Option.map_eq_some_iff.mp hb
      obtain ⟨xr, hxr, hdr⟩ := dpA_get hA (rowOf_at hst)
      have okr := ok.row _ (List.mem_of_getElem? (rowOf_at hst))
      have zl := dpA_len hzs
      rw [List.length_map] at zl
      refine ⟨_, rfl, _, rfl, pq, _, _, _, rfl, rfl, same_t s2 hpq, atI_nat hxr, _, rfl, _, rfl, xr, vt, x.2.2, rowOf C x.2.1, tape, br, rfl, dp_same s2 _ _ hdr, fun b hb => okr.cm.short b.1 (List.mem_map.mpr ⟨b, hb, rfl⟩), by have := okr.few; omega, dp_same s2 _ _ ht, hrd, hl, hnb, fun H3 v s3 hv => ?_⟩
      obtain ⟨pb, x0, x1, rfl, hpb, hd0, hd1⟩ := br_at hv
      obtain ⟨p0, rfl, hp0⟩ := i_at hd0
      have hL3 := s3 _ _ hL2
      have k4 := keepT_nt (o := .lst (zs ++ [x1])) (nt_lst _) hL3
      refine ⟨pb, _, rfl, hpb, rfl, _, _, rfl, _, _, rfl, _, _, rfl, rfl, ?_⟩
      refine ⟨_, rfl, .inl ⟨rfl, _, SqL.of hL3⟩, _, rfl, L, zs, _, rfl, rfl, hL3, line6 (by omega), ?_⟩
      refine ⟨_, rfl, _, rfl, _, _, rfl, .inr ⟨_, sqt_keep k4 hp0, rfl⟩, _, _, rfl, rfl, ?_⟩
      refine ⟨(x.1 ++ [br.2.1], br.2.2, x.2.2 + br.1.length), some (.int (0 + (i : Int))), some (.ref p0), some x1, zs ++ [x1], ?_, same_mut (s2.trans s3) hL, upd_same, ?_, ?_⟩
      · show _ = [_, _, _, _, _, some (V.int ((x.2.2 + br.1.length : Nat) : Int)), _, _, _, _]
        rw [Int.natCast_add, List.length_map]
        rfl
      · show DpAll K _ _ ((x.1 ++ [br.2.1]).map dSh)
        rw [List.map_append]
        exact dpA_snoc (dpA_keep k4 _ _ (noLs_sh x.1) (dpA_same s3 _ _ hzs)) (dp_keep k4 _ _ (dSh_noL _) hd1)
      · show (wk C tape i).bind _ = _
        rw [hx]
        show (nextB (rowOf C x.2.1) (tape.drop x.2.2)).map _ = _
        rw [hnb]
        rfl
    · rintro σ H2 ⟨x, y7, y8, y9, zs, rfl, s2, hL2, hzs, hx⟩
      rw [hw] at hx
      obtain rfl := Option.some.inj hx
      refine ⟨_, rfl, L, zs, rfl, .inl ⟨SqL.of hL2, fun pt hpt => ⟨_, rfl, _, rfl, by show 3 ≤ sizeLine; decide, fun p hp => ?_⟩⟩⟩
      have s3 := same_new (o := .tup zs) hpt
      have s4 := same_new (o := .tup [.ref pt, .int w.2.1, .int w.2.2]) hp
      exact q _ _ (s2.trans (s3.trans s4)) (.tup (SqT.of upd_same) (.cons (.tup (SqT.of (s4 _ _ upd_same)) (dpA_same (s3.trans s4) _ _ hzs)) (.cons (.int _) (.cons (.int _) .nil))))
end
end Mt
namespace Mt
open PySem PySem.Spec PyProof.Rows L2
def spShufP (K : PySem.W.Frag) : Sp := fun vs H Q _ => ∃ (S D p : Addr) (xs : List V), vs = [.ref D, .ref p] ∧ DrawAt S D H ∧ SqL K H p xs ∧ xs.length ≤ 1000 ∧
  ∀ (H' : Hp) (q : Addr) (ys : List V), Go S D H H' → H q = none → H' q = some (.lst ys) → ys.Perm xs → Q (.ref q) H'
/-- rows of a chain of n states -/
structure RsOk (base : Int) (n : Nat) (C : Chn) : Prop where
  len : C.length = n
  row : ∀ r ∈ C, RwOk base n r
def spDown (K : PySem.W.Frag) : Sp := fun vs H Q _ => ∃ (S D : Addr) (base n : Int) (m o : Str), vs = [.ref D, .int base, .int n, .str m, .str o] ∧ DrawAt S D H ∧ 2 ≤ base ∧ base ≤ 6 ∧ 1 ≤ n ∧ n ≤ 50 ∧
  ∀ (H' : Hp) (L : Addr) (zs : List V) (C : Chn), Go S D H H' → H L = none → H' L = some (.lst zs) → DpAll K H' zs (C.map dRw) → RsOk base n.toNat C → Q (.ref L) H'
section
variable {P : Program} {w : World} {K : PySem.W.Frag} {mg : Str → Option Value} {base : Heap}
theorem ok__law_shuffled (T : Txt K mg) (D__law_draw : Kept P w K mg base 1 "_law_draw" ["d", "many"] spDraw) {f : Addr} {fd : FuncData} (F : FnP K "_law_shuffled" s__law_shuffled f fd) : FnOk P w K mg base CX0 2 f fd ["d", "row"] (spShufP K) := by
  refine F.ok sc__law_shuffled (fun vs H Q E h => ?_) (fun cdv A outer s H vs Q E hr h => ?_)
  · obtain ⟨S, D, p, xs, rfl, _⟩ := h
    rfl
  · obtain ⟨S, D, p, xs, rfl, d, hp, hl, q⟩ := h
    refine ⟨_, PSs.nox (pss_cons (ps_set (i := 2) sc__law_shuffled.nd rfl (Or.inl rfl) (pe_callTy call_list_of (by rfl) T.b_list (by decide +kernel) (pa_cons (pv 1) pa_nil)))
      (pss_cons (ps_set (i := 3) sc__law_shuffled.nd rfl (Or.inl rfl) (pe_lst pa_nil))
      (pss_cons (ps_for PassesOwn.never rfl (pi_range1 (by rfl) T.b_range (pa_cons (pe_callB call_len (by rfl) T.b_len (by decide +kernel) (pa_cons (pv 2) pa_nil)) pa_nil)) (pg_name (i := 4) sc__law_shuffled.nd rfl (Or.inl rfl)) (pss_one (ps_expr (pe_bm PySem.F.plainAttrs_list PySem.F.slot_list_append PySem.F.type_list_append mt_append (pv 3) (pa_cons (pe_bm PySem.F.plainAttrs_list PySem.F.slot_list_pop PySem.F.type_list_pop mt_popAt (pv 2) (pa_cons (pe_d D__law_draw (hr.mono (by decide)) (by rfl) (pa_cons (pv 0) (pa_cons (pe_callB call_len (by rfl) T.b_len (by decide +kernel) (pa_cons (pv 2) pa_nil)) pa_nil))) pa_nil)) pa_nil)))))
      (pss_one (ps_ret (pv 3)))))), ?_⟩
    refine ⟨_, rfl, p, xs, rfl, .inl hp, fun l hl0 => ⟨Nat.zero_le _, fun f hf => ?_⟩⟩
    have g1 := Go.new (o := .lst xs) d hl0
    have g2 := g1.trans (Go.new (o := .lst []) g1.1 hf)
    have nlf : l ≠ f := fun e => by
      rw [← e, upd_same] at hf
      cases hf
    have hf0 : H f = none := by
      rw [upd_ne nlf.symm] at hf
      exact hf
    have hll : (upd (upd H l (.lst xs)) f (.lst [])) l = some (.lst xs) := by
      rw [upd_ne nlf, upd_same]
    have nlD := (d.free hl0).1
    have nfD := (d.free hf0).1
    refine ⟨_, rfl, _, _, rfl, .inl ⟨_, SqL.of hll, rfl⟩, xs.length, rfl, by omega, by omega, for_range (lo := 0) (n := xs.length) (fun i σ H' => ∃ (y : Option V) (ls fs : List V), σ = [some (.ref D), some (.ref p), some (.ref l), some (.ref f), y] ∧ Go S D H H' ∧ H' l = some (.lst ls) ∧ H' f = some (.lst fs) ∧ ls.length + i = xs.length ∧ fs.length = i ∧ (ls ++ fs).Perm xs) ⟨_, xs, [], rfl, g2, hll, upd_same, rfl, rfl, by rw [List.append_nil]⟩ ?_ ?_⟩
    · rintro i σ H1 hi ⟨y, ls, fs, rfl, g, h1, h2, e1, e2, m1⟩
      refine ⟨_, rfl, .inl ⟨rfl, _, SqL.of h2⟩, _, rfl, .inl ⟨rfl, _, SqL.of h1⟩, _, rfl, _, rfl, _, _, rfl, .inl ⟨_, SqL.of h1, rfl⟩, S, D, _, rfl, divW_of (by omega) (by omega), g.1, fun H2 v v0 v1 g3 => ?_⟩
      have hv : v.toNat < ls.length := by omega
      have ex : ls[v.toNat]? = some ls[v.toNat] := List.getElem?_eq_getElem hv
      have h1' := g3.2 _ _ h1 nlD
      have h2' := g3.2 _ _ h2 nfD
      refine ⟨l, ls, v, v.toNat, _, rfl, rfl, h1', by omega, by omega, seqIndex_of v0 (by omega), ex, ?_⟩
      have h2'' : (upd H2 l (.lst (ls.eraseIdx v.toNat))) f = some (.lst fs) := by
        rw [upd_ne nlf.symm]
        exact h2'
      refine ⟨f, fs, _, rfl, rfl, h2'', line6 (by omega), ?_⟩
      have g4 := g.trans g3
      refine ⟨_, ls.eraseIdx v.toNat, fs ++ [ls[v.toNat]], rfl, ⟨(g4.1.upd nlD (d.free hl0).2).upd nfD (d.free hf0).2, fun b o hb n => ?_⟩, ?_, upd_same, ?_, ?_, ?_⟩
      · rw [upd_ne (ne_of_none hb hf0), upd_ne (ne_of_none hb hl0)]
        exact g4.2 b o hb n
      · rw [upd_ne nlf, upd_same]
      · rw [List.length_eraseIdx_of_lt hv]
        omega
      · rw [List.length_append, List.length_singleton, e2]
      · rw [← List.append_assoc]
        exact ((List.perm_append_singleton _ _).trans ((erase_perm ex).append_right fs)).trans m1
    · rintro σ H1 ⟨y, ls, fs, rfl, g, h1, h2, e1, e2, m1⟩
      have : ls = [] := List.length_eq_zero_iff.mp (by omega)
      rw [this, List.nil_append] at m1
      exact ⟨_, rfl, q _ f fs g hf0 h2 m1⟩
theorem ok__law_downhill (T : Txt K mg) (D__law_draw : Kept P w K mg base 1 "_law_draw" ["d", "many"] spDraw) (D__law_pick : Kept P w K mg base 2 "_law_pick" ["d", "row"] (spPick K)) (D__law_words : Kept P w K mg base 2 "_law_words" ["d", "base", "many"] (spWords K)) {f : Addr} {fd : FuncData} (F : FnP K "_law_downhill" s__law_downhill f fd) : FnOk P w K mg base CX0 3 f fd ["d", "base", "states", "mark", "other"] (spDown K) := by
  refine F.ok sc__law_downhill (fun vs H Q E h => ?_) (fun cdv A outer s H vs Q E hr h => ?_)
  · obtain ⟨S, D, b, n, m, o, rfl, _⟩ := h
    rfl
  · obtain ⟨S, D, b, n, m, o, rfl, d, b2, b6, n1, n2, q⟩ := h
    refine ⟨_, PSs.nox (pss_cons (ps_set (i := 5) sc__law_downhill.nd rfl (Or.inl rfl) (pe_lst pa_nil))
      (pss_cons (ps_for PassesOwn.never rfl (pi_range1 (by rfl) T.b_range (pa_cons (pv 2) pa_nil)) (pg_name (i := 6) sc__law_downhill.nd rfl (Or.inl rfl)) (pss_cons (ps_set (i := 7) sc__law_downhill.nd rfl (Or.inl rfl) (pe_lst pa_nil))
      (pss_cons (ps_for PassesOwn.never rfl (pi_list (pe_d D__law_words (hr.mono (by decide)) (by rfl) (pa_cons (pv 0) (pa_cons (pv 1) (pa_cons (pe_d D__law_draw (hr.mono (by decide)) (by rfl) (pa_cons (pv 0) (pa_cons pe_int pa_nil))) pa_nil))))) (pg_name (i := 8) sc__law_downhill.nd rfl (Or.inl rfl)) (pss_one (ps_if (PW.pt (pw_or (pt_cmpR op_eq (pv 6) (pe_op op_sub (pv 2) pe_int) (nomark _)) (pw_or1 (pt_cmpR op_eq (pe_d D__law_draw (hr.mono (by decide)) (by rfl) (pa_cons (pv 0) (pa_cons pe_int pa_nil))) pe_int (nomark _))))) (pss_one (ps_expr (pe_bm PySem.F.plainAttrs_list PySem.F.slot_list_append PySem.F.type_list_append mt_append (pv 7) (pa_cons (pe_tup (pa_cons (pv 8) (pa_cons (pe_d D__law_pick (hr.mono (by decide)) (by rfl) (pa_cons (pv 0) (pa_cons (pe_lst (pa_cons (pe_tup (pa_cons (pv 3) pa_nil)) (pa_cons (pe_tup (pa_cons (pv 4) (pa_cons (pv 3) pa_nil))) (pa_cons (pe_tup (pa_cons (pv 3) (pa_cons (pv 3) pa_nil))) pa_nil)))) pa_nil))) (pa_cons (pe_d D__law_draw (hr.mono (by decide)) (by rfl) (pa_cons (pv 0) (pa_cons (pv 2) pa_nil))) pa_nil)))) pa_nil)))) (pss_one (ps_expr (pe_bm PySem.F.plainAttrs_list PySem.F.slot_list_append PySem.F.type_list_append mt_append (pv 7) (pa_cons (pe_tup (pa_cons (pv 8) (pa_cons (pe_d D__law_pick (hr.mono (by decide)) (by rfl) (pa_cons (pv 0) (pa_cons (pe_lst (pa_cons (pe_tup pa_nil) (pa_cons (pe_tup (pa_cons (pv 4) pa_nil)) pa_nil))) pa_nil))) (pa_cons (pe_op op_add (pe_op op_add (pv 6) pe_int) (pe_d D__law_draw (hr.mono (by decide)) (by rfl) (pa_cons (pv 0) (pa_cons (pe_op op_sub (pe_op op_sub (pv 2) pe_int) (pv 6)) pa_nil)))) pa_nil)))) pa_nil)))))))
      (pss_one (ps_expr (pe_bm PySem.F.plainAttrs_list PySem.F.slot_list_append PySem.F.type_list_append mt_append (pv 5) (pa_cons (pe_callTy call_tuple_of (by rfl) T.b_tuple (by decide +kernel) (pa_cons (pv 7) pa_nil)) pa_nil)))))))
      (pss_one (ps_ret (pv 5))))), ?_⟩
    refine ⟨Nat.zero_le _, fun L hL => ?_⟩
    have g1 := Go.new (o := .lst []) d hL
    have LD := (d.free hL).1
    refine ⟨_, rfl, _, rfl, by omega, by omega, for_range (lo := 0) (n := n.toNat) (fun i σ H' => ∃ (y6 y7 y8 : Option V) (zs : List V) (C : Chn), σ = [some (.ref D), some (.int b), some (.int n), some (.str m), some (.str o), some (.ref L), y6, y7, y8] ∧ Go S D H H' ∧ H' L = some (.lst zs) ∧ DpAll K H' zs (C.map dRw) ∧ C.length = i ∧ ∀ r ∈ C, RwOk b n.toNat r) ⟨_, _, _, [], [], rfl, g1, upd_same, .nil, rfl, fun _ h => absurd h List.not_mem_nil⟩ ?_ ?_⟩
    · rintro i σ H1 hi ⟨y6, y7, y8, zs, C, rfl, g, hL1, hzs, hC, hCr⟩
      have zl := dpA_len hzs
      rw [List.length_map] at zl
      refine ⟨Nat.zero_le _, fun f hf => ?_⟩
      have gf := Go.new (o := .lst []) g.1 hf
      have fD := (g.1.free hf).1
      have fL : f ≠ L := (ne_of_none hL1 hf).symm
      have hf2 := upd_same (H := H1) (a := f) (o := .lst [])
      generalize upd H1 f (.lst []) = H2 at gf hf2
      refine ⟨_, rfl, _, rfl, _, rfl, S, D, 3, rfl, divW_of (by decide) (by decide), gf.1, fun H3 mm m0 m1 g3 => ⟨S, D, b, mm, rfl, g3.1, b2, b6, m0, by omega, fun H4 Lw xs ws g4 hLw0 hLw hA hc w0 w1 => ?_⟩⟩
      have g34 := gf.trans (g3.trans g4)
      have LwD := (g3.1.free hLw0).1
      have hf4 := (g3.trans g4).2 _ _ hf2 fD
      have LwF : Lw ≠ f := fun e => by
        rw [e, g3.2 _ _ hf2 fD] at hLw0
        cases hLw0
      have xl := dpA_len hA
      rw [List.length_map] at xl
      refine ⟨Lw, rfl, ⟨_, SqL.of hLw⟩, for_list (K := K) (a := Lw) (xs := xs) (fun j σ H' => ∃ (y8 : Option V) (qs : List V) (r : List Br), σ = [some (.ref D), some (.int b), some (.int n), some (.str m), some (.str o), some (.ref L), some (.int (0 + (i : Int))), some (.ref f), y8] ∧ Go S D H1 H' ∧ H' Lw = some (.lst xs) ∧ DpAll K H' xs (ws.map dI) ∧ H' f = some (.lst qs) ∧ DpAll K H' qs (r.map dBr) ∧ r.map (·.1) = ws.take j ∧ ∀ b ∈ r, b.2.2 < n.toNat ∧ b.2.1.length ≤ 6) ⟨_, [], [], rfl, g34, hLw, hA, hf4, .nil, rfl, fun _ h => absurd h List.not_mem_nil⟩ (fun i σ H' _ ⟨_, _, _, _, _, h, _⟩ => SqL.of h) ?_ ?_⟩
      · rintro j x σ H5 hj ⟨y8, qs, r, rfl, g5, hLw5, hA5, hf5, hr5, er, hrr⟩
        obtain ⟨wd, hw, hx⟩ := dpA_mem hA5 hj
        have jl := (List.getElem?_eq_some_iff.mp hj).1
        have ql := dpA_len hr5
        rw [List.length_map] at ql
        have rl : r.length = j := by
          have := congrArg List.length er
          rw [List.length_map, List.length_take] at this
          omega
        have addb : ∀ (H7 : Hp) (p pb : Addr) (ss : List Str) (t : Int), Go S D H5 H7 → Dp K H7 (.ref p) (dSh ss) → ss.length ≤ 6 → 0 ≤ t → t < n → H7 pb = none → upd H7 pb (.tup [x, .ref p, .int t]) f = some (.lst qs) ∧ qs.length < sizeLine ∧
            ∃ r' : List Br, Go S D H1 (upd (upd H7 pb (.tup [x, .ref p, .int t])) f (.lst (qs ++ [.ref pb]))) ∧ upd (upd H7 pb (.tup [x, .ref p, .int t])) f (.lst (qs ++ [.ref pb])) Lw = some (.lst xs) ∧ DpAll K (upd (upd H7 pb (.tup [x, .ref p, .int t])) f (.lst (qs ++ [.ref pb]))) xs (ws.map dI) ∧ upd (upd H7 pb (.tup [x, .ref p, .int t])) f (.lst (qs ++ [.ref pb])) f = some (.lst (qs ++ [.ref pb])) ∧ DpAll K (upd (upd H7 pb (.tup [x, .ref p, .int t])) f (.lst (qs ++ [.ref pb]))) (qs ++ [.ref pb]) (r'.map dBr) ∧ r'.map (·.1) = ws.take (j + 1) ∧ ∀ b ∈ r', b.2.2 < n.toNat ∧ b.2.1.length ≤ 6 := by
          intro H7 p pb ss t g7 hss hsl t0 t1 hpb
          have gb := g7.trans (Go.new (o := .tup [x, .ref p, .int t]) g7.1 hpb)
          have hpb8 := upd_same (H := H7) (a := pb) (o := .tup [x, .ref p, .int t])
          have hp8 := dp_keep (Go.keepT g7.1 (Go.new (o := .tup [x, .ref p, .int t]) g7.1 hpb)) _ _ (dSh_noL ss) hss
          generalize upd H7 pb (.tup [x, .ref p, .int t]) = H8 at gb hpb8 hp8
          have k8 := Go.keepT g5.1 gb
          have hf8 := gb.2 _ _ hf5 fD
          have kf := keepT_nt (o := .lst (qs ++ [.ref pb])) (nt_lst _) hf8
          have dB : Dp K H8 (.ref pb) (dBr (wd, ss, t.toNat)) := by
            have e1 : PyData.int ((t.toNat : Nat) : Int) = .int t := by rw [Int.toNat_of_nonneg t0]
            show Dp K H8 (.ref pb) (.tuple [dI wd, dSh ss, .int ((t.toNat : Nat) : Int)])
            rw [e1]
            exact .tup (SqT.of hpb8) (.cons (dp_keep k8 _ _ (dI_noL wd) hx) (.cons hp8 (.cons (.int _) .nil)))
          refine ⟨hf8, line6 (by omega), r ++ [(wd, ss, t.toNat)], goU hf g.1 (g5.trans gb), ?_, dpA_keep kf _ _ (noLs_I ws) (dpA_keep k8 _ _ (noLs_I ws) hA5), upd_same, ?_, ?_, fun y hy => ?_⟩
          · rw [upd_ne LwF]
            exact gb.2 _ _ hLw5 LwD
          · rw [List.map_append]
            exact dpA_snoc (dpA_keep kf _ _ (noLs_br r) (dpA_keep k8 _ _ (noLs_br r) hr5)) (dp_keep kf _ _ (dBr_noL _) dB)
          · rw [List.map_append, er, List.take_add_one, hw]
            rfl
          · rcases List.mem_append.mp hy with h | h
            · exact hrr y h
            · rw [List.mem_singleton.mp h]
              exact ⟨by show t.toNat < n.toNat; omega, hsl⟩
        refine ⟨_, rfl, _, rfl, _, _, rfl, rfl, rfl, _, rfl, ite2 (fun _ => ?_) (fun hne => ⟨_, rfl, S, D, 4, rfl, divW_of (by decide) (by decide), g5.1, fun H6 v v0 v1 g6 => ⟨rfl, _, rfl, ite2 (fun _ => ?_) (fun _ => ?_)⟩⟩)⟩
        · have g6 := Go.refl g5.1
          refine ⟨_, rfl, .inl ⟨rfl, _, SqL.of (g6.2 _ _ hf5 fD)⟩, _, rfl, _, rfl, _, rfl, by show 1 ≤ sizeLine; decide, fun p1 hp1 => ⟨_, rfl, _, rfl, by show 2 ≤ sizeLine; decide, fun p2 hp2 => ⟨_, rfl, _, rfl, by show 2 ≤ sizeLine; decide, fun p3 hp3 => ⟨by show 3 ≤ sizeLine; decide, fun l hl0 => ?_⟩⟩⟩⟩
          have u1 := same_new (o := .tup [.str m]) hp1
          have u2 := same_new (o := .tup [.str o, .str m]) hp2
          have u3 := same_new (o := .tup [.str m, .str m]) hp3
          have u4 := same_new (o := .lst [.ref p1, .ref p2, .ref p3]) hl0
          have a1 := (u2.trans (u3.trans u4)) _ _ (upd_same (H := H5) (a := p1) (o := .tup [.str m]))
          have a2 := (u3.trans u4) _ _ (upd_same (H := upd H5 p1 (.tup [.str m])) (a := p2) (o := .tup [.str o, .str m]))
          have a3 := u4 _ _ (upd_same (H := upd (upd H5 p1 (.tup [.str m])) p2 (.tup [.str o, .str m])) (a := p3) (o := .tup [.str m, .str m]))
          have a4 := upd_same (H := upd (upd (upd H5 p1 (.tup [.str m])) p2 (.tup [.str o, .str m])) p3 (.tup [.str m, .str m])) (a := l) (o := .lst [.ref p1, .ref p2, .ref p3])
          have g7 := g6.trans (Go.same g6.1 (u1.trans (u2.trans (u3.trans u4))))
          have lD := ((Go.same g6.1 (u1.trans (u2.trans u3))).1.free hl0).1
          generalize upd (upd (upd (upd H5 p1 (.tup [.str m])) p2 (.tup [.str o, .str m])) p3 (.tup [.str m, .str m])) l (.lst [.ref p1, .ref p2, .ref p3]) = H7 at a1 a2 a3 a4 g7
          refine ⟨S, D, .ref l, _, rfl, g7.1, fun H' g => .inr (.inl ⟨l, rfl, SqL.of (g.2 _ _ a4 lD)⟩), by show 0 < 3; decide, by show 3 ≤ 100000; decide, fun H8 y hy g8 => ?_⟩
          obtain ⟨p, ss, rfl, hsl, hss⟩ : ∃ p ss, y = .ref p ∧ ss.length ≤ 6 ∧ Dp K H8 (.ref p) (dSh ss) := by
            have k := Go.keepT g7.1 g8
            simp only [List.mem_cons, List.not_mem_nil, or_false] at hy
            rcases hy with e | e | e
            · exact ⟨p1, [m], e, by show 1 ≤ 6; decide, sh_of (sqt_keep k (SqT.of a1))⟩
            · exact ⟨p2, [o, m], e, by show 2 ≤ 6; decide, sh_of (sqt_keep k (SqT.of a2))⟩
            · exact ⟨p3, [m, m], e, by show 2 ≤ 6; decide, sh_of (sqt_keep k (SqT.of a3))⟩
          refine ⟨_, rfl, _, rfl, S, D, n, rfl, divW_of (by omega) (by omega), g8.1, fun H9 t t0 t1 g9 => ⟨by show 3 ≤ sizeLine; decide, fun pb hpb => ?_⟩⟩
          obtain ⟨c1, c2, r', c3, c4, c5, c6, c7, c8, c9⟩ := addb H9 p pb ss t ((g7.trans g8).trans g9) (dp_keep (Go.keepT g8.1 g9) _ _ (dSh_noL ss) hss) hsl t0 t1 hpb
          exact ⟨f, qs, _, rfl, rfl, c1, c2, _, qs ++ [.ref pb], r', rfl, c3, c4, c5, c6, c7, c8, c9⟩
        · refine ⟨_, rfl, .inl ⟨rfl, _, SqL.of (g6.2 _ _ hf5 fD)⟩, _, rfl, _, rfl, _, rfl, by show 1 ≤ sizeLine; decide, fun p1 hp1 => ⟨_, rfl, _, rfl, by show 2 ≤ sizeLine; decide, fun p2 hp2 => ⟨_, rfl, _, rfl, by show 2 ≤ sizeLine; decide, fun p3 hp3 => ⟨by show 3 ≤ sizeLine; decide, fun l hl0 => ?_⟩⟩⟩⟩
          have u1 := same_new (o := .tup [.str m]) hp1
          have u2 := same_new (o := .tup [.str o, .str m]) hp2
          have u3 := same_new (o := .tup [.str m, .str m]) hp3
          have u4 := same_new (o := .lst [.ref p1, .ref p2, .ref p3]) hl0
          have a1 := (u2.trans (u3.trans u4)) _ _ (upd_same (H := H6) (a := p1) (o := .tup [.str m]))
          have a2 := (u3.trans u4) _ _ (upd_same (H := upd H6 p1 (.tup [.str m])) (a := p2) (o := .tup [.str o, .str m]))
          have a3 := u4 _ _ (upd_same (H := upd (upd H6 p1 (.tup [.str m])) p2 (.tup [.str o, .str m])) (a := p3) (o := .tup [.str m, .str m]))
          have a4 := upd_same (H := upd (upd (upd H6 p1 (.tup [.str m])) p2 (.tup [.str o, .str m])) p3 (.tup [.str m, .str m])) (a := l) (o := .lst [.ref p1, .ref p2, .ref p3])
          have g7 := g6.trans (Go.same g6.1 (u1.trans (u2.trans (u3.trans u4))))
          have lD := ((Go.same g6.1 (u1.trans (u2.trans u3))).1.free hl0).1
          generalize upd (upd (upd (upd H6 p1 (.tup [.str m])) p2 (.tup [.str o, .str m])) p3 (.tup [.str m, .str m])) l (.lst [.ref p1, .ref p2, .ref p3]) = H7 at a1 a2 a3 a4 g7
          refine ⟨S, D, .ref l, _, rfl, g7.1, fun H' g => .inr (.inl ⟨l, rfl, SqL.of (g.2 _ _ a4 lD)⟩), by show 0 < 3; decide, by show 3 ≤ 100000; decide, fun H8 y hy g8 => ?_⟩
          obtain ⟨p, ss, rfl, hsl, hss⟩ : ∃ p ss, y = .ref p ∧ ss.length ≤ 6 ∧ Dp K H8 (.ref p) (dSh ss) := by
            have k := Go.keepT g7.1 g8
            simp only [List.mem_cons, List.not_mem_nil, or_false] at hy
            rcases hy with e | e | e
            · exact ⟨p1, [m], e, by show 1 ≤ 6; decide, sh_of (sqt_keep k (SqT.of a1))⟩
            · exact ⟨p2, [o, m], e, by show 2 ≤ 6; decide, sh_of (sqt_keep k (SqT.of a2))⟩
            · exact ⟨p3, [m, m], e, by show 2 ≤ 6; decide, sh_of (sqt_keep k (SqT.of a3))⟩
          refine ⟨_, rfl, _, rfl, S, D, n, rfl, divW_of (by omega) (by omega), g8.1, fun H9 t t0 t1 g9 => ⟨by show 3 ≤ sizeLine; decide, fun pb hpb => ?_⟩⟩
          obtain ⟨c1, c2, r', c3, c4, c5, c6, c7, c8, c9⟩ := addb H9 p pb ss t ((g7.trans g8).trans g9) (dp_keep (Go.keepT g8.1 g9) _ _ (dSh_noL ss) hss) hsl t0 t1 hpb
          exact ⟨f, qs, _, rfl, rfl, c1, c2, _, qs ++ [.ref pb], r', rfl, c3, c4, c5, c6, c7, c8, c9⟩
        · have hne' : ¬ (0 + (i : Int)) = n - 1 := fun e => hne (by rw [e]; exact decide_eq_true rfl)
          refine ⟨_, rfl, .inl ⟨rfl, _, SqL.of (g6.2 _ _ hf5 fD)⟩, _, rfl, _, rfl, Nat.zero_le _, fun p1 hp1 => ⟨_, rfl, by show 1 ≤ sizeLine; decide, fun p2 hp2 => ⟨by show 2 ≤ sizeLine; decide, fun l hl0 => ?_⟩⟩⟩
          have u1 := same_new (o := .tup []) hp1
          have u2 := same_new (o := .tup [.str o]) hp2
          have u4 := same_new (o := .lst [.ref p1, .ref p2]) hl0
          have a1 := (u2.trans u4) _ _ (upd_same (H := H6) (a := p1) (o := .tup []))
          have a2 := u4 _ _ (upd_same (H := upd H6 p1 (.tup [])) (a := p2) (o := .tup [.str o]))
          have a4 := upd_same (H := upd (upd H6 p1 (.tup [])) p2 (.tup [.str o])) (a := l) (o := .lst [.ref p1, .ref p2])
          have g7 := g6.trans (Go.same g6.1 (u1.trans (u2.trans u4)))
          have lD := ((Go.same g6.1 (u1.trans u2)).1.free hl0).1
          generalize upd (upd (upd H6 p1 (.tup [])) p2 (.tup [.str o])) l (.lst [.ref p1, .ref p2]) = H7 at a1 a2 a4 g7
          refine ⟨S, D, .ref l, _, rfl, g7.1, fun H' g => .inr (.inl ⟨l, rfl, SqL.of (g.2 _ _ a4 lD)⟩), by show 0 < 2; decide, by show 2 ≤ 100000; decide, fun H8 y hy g8 => ?_⟩
          obtain ⟨p, ss, rfl, hsl, hss⟩ : ∃ p ss, y = .ref p ∧ ss.length ≤ 6 ∧ Dp K H8 (.ref p) (dSh ss) := by
            have k := Go.keepT g7.1 g8
            simp only [List.mem_cons, List.not_mem_nil, or_false] at hy
            rcases hy with e | e
            · exact ⟨p1, [], e, by show 0 ≤ 6; decide, sh_of (sqt_keep k (SqT.of a1))⟩
            · exact ⟨p2, [o], e, by show 1 ≤ 6; decide, sh_of (sqt_keep k (SqT.of a2))⟩
          refine ⟨_, rfl, _, _, rfl, rfl, _, rfl, _, rfl, _, _, rfl, rfl, _, rfl, _, _, rfl, rfl, S, D, _, rfl, divW_of (by omega) (by omega), g8.1, fun H9 t t0 t1 g9 => ⟨_, _, rfl, rfl, by show 3 ≤ sizeLine; decide, fun pb hpb => ?_⟩⟩
          obtain ⟨c1, c2, r', c3, c4, c5, c6, c7, c8, c9⟩ := addb H9 p pb ss (0 + (i : Int) + 1 + t) ((g7.trans g8).trans g9) (dp_keep (Go.keepT g8.1 g9) _ _ (dSh_noL ss) hss) hsl (by omega) (by omega) hpb
          exact ⟨f, qs, _, rfl, rfl, c1, c2, _, qs ++ [.ref pb], r', rfl, c3, c4, c5, c6, c7, c8, c9⟩
      · rintro σ H5 ⟨y8, qs, r, rfl, g5, hLw5, hA5, hf5, hr5, er, hrr⟩
        rw [xl, List.take_length] at er
        have rl : r.length = ws.length := by
          rw [← er, List.length_map]
        have gg := g.trans g5
        have hL5 := g5.2 _ _ hL1 LD
        refine ⟨_, rfl, .inl ⟨rfl, _, SqL.of hL5⟩, _, rfl, f, qs, rfl, .inl ⟨SqL.of hf5, fun pr hpr => ?_⟩⟩
        have gp := Go.new (o := .tup qs) g5.1 hpr
        have kp := Go.keepT g5.1 gp
        have hpr6 := upd_same (H := H5) (a := pr) (o := .tup qs)
        have hL6 := gp.2 _ _ hL5 LD
        generalize upd H5 pr (.tup qs) = H6 at gp kp hpr6 hL6
        have kL := keepT_nt (o := .lst (zs ++ [.ref pr])) (nt_lst _) hL6
        refine ⟨L, zs, _, rfl, rfl, hL6, line6 (by omega), _, _, _, zs ++ [.ref pr], C ++ [r], rfl, goU hL d (gg.trans gp), upd_same, ?_, by rw [List.length_append, hC]; rfl, fun x hx => ?_⟩
        · rw [List.map_append]
          exact dpA_snoc (dpA_keep kL _ _ (noLs_rw C) (dpA_keep (Go.keepT g.1 (g5.trans gp)) _ _ (noLs_rw C) hzs)) (dp_keep kL _ _ (dRw_noL _) (.tup (SqT.of hpr6) (dpA_keep kp _ _ (noLs_br r) hr5)))
        · rcases List.mem_append.mp hx with h | h
          · exact hCr x h
          · rw [List.mem_singleton.mp h]
            exact ⟨by omega, by omega, hrr, by rw [er]; exact hc⟩
    · rintro σ H1 ⟨y6, y7, y8, zs, C, rfl, g, hL1, hzs, hC, hCr⟩
      exact ⟨_, rfl, q _ L zs C g hL hL1 hzs ⟨hC, hCr⟩⟩
end
end Mt
namespace Mt
open PySem PySem.Spec PyProof.Rows L2
theorem mtIxK {X : Cx} {K : PySem.W.Frag} (h : X.K = K) : MtR X "list.index" (rIndex K) := h ▸ mt_index
theorem castBM {X : Cx} {K : PySem.W.Frag} {e : Expr} {T : String} {r : V → List V → Hp → VK → Prop} {to : TE} {t : TA} (h : X.K = K) (p : PE X e (tBM X.K T r to t)) : PE X e (tBM K T r to t) := h ▸ p
theorem first_at {l : List Nat} {t : Nat} (h : t ∈ l) : ∃ j : Nat, l[j]? = some t ∧ ∀ (m z : Nat), m < j → l[m]? = some z → z ≠ t := by
  induction l with
  | nil => exact absurd h List.not_mem_nil
  | cons a r ih =>
    by_cases e : a = t
    · exact ⟨0, by rw [← e]; rfl, fun m z hm => absurd hm (Nat.not_lt_zero m)⟩
    · rcases List.mem_cons.mp h with k | k
      · exact absurd k.symm e
      · obtain ⟨j, h1, h2⟩ := ih k
        refine ⟨j + 1, by simpa using h1, fun m z hm hz => ?_⟩
        cases m with
        | zero =>
          have : a = z := Option.some.inj hz
          rw [← this]
          exact e
        | succ m => exact h2 m z (by omega) (by simpa using hz)
def vN (k : Nat) : V := .int (k : Int)
theorem flat_vN (os : List Nat) : (os.map vN).all flatV = true := by
  rw [List.all_map]
  exact List.all_eq_true.mpr fun _ _ => rfl
def spTurn (K : PySem.W.Frag) : Sp := fun vs H Q _ => ∃ (S D L : Addr) (base : Int) (n : Nat) (zs : List V) (C : Chn), vs = [.ref D, .ref L] ∧ DrawAt S D H ∧ L ≠ D ∧ H L = some (.lst zs) ∧ DpAll K H zs (C.map dRw) ∧ RsOk base n C ∧ 1 ≤ n ∧ n ≤ 50 ∧
  ∀ (H' : Hp) (L' : Addr) (zs' : List V) (C' : Chn), Go S D H H' → H L' = none → H' L' = some (.lst zs') → DpAll K H' zs' (C'.map dRw) → RsOk base n C' → Q (.ref L') H'
theorem ord_of {n : Nat} {ys : List V} (h1 : 1 ≤ n) (h : ys.Perm (rgV 1 (n : Int))) : ∃ os : List Nat, os.Perm (List.range n) ∧ [V.int 0] ++ ys = os.map vN := by
  unfold rgV at h
  obtain ⟨l, hl, rfl⟩ := perm_back h
  have e : ((n : Int) - 1).toNat = n - 1 := by omega
  rw [e] at hl
  refine ⟨0 :: l.map (· + 1), ?_, ?_⟩
  · obtain ⟨m, rfl⟩ : ∃ m, n = m + 1 := ⟨n - 1, by omega⟩
    rw [List.range_succ_eq_map]
    exact (hl.map (· + 1)).cons 0
  · rw [List.map_cons, List.map_map]
    show V.int 0 :: _ = V.int ((0 : Nat) : Int) :: _
    congr 1
    refine List.map_congr_left fun i _ => ?_
    show V.int (1 + (i : Int)) = V.int (((i + 1 : Nat)) : Int)
    congr 1
    omega
section
variable {P : Program} {w : World} {K : PySem.W.Frag} {mg : Str → Option Value} {base : Heap}
theorem ok__law_turned (T : Txt K mg) (D__law_shuffled : Kept P w K mg base 2 "_law_shuffled" ["d", "row"] (spShufP K)) {f : Addr} {fd : FuncData} (F : FnP K "_law_turned" s__law_turned f fd) : FnOk P w K mg base CX0 3 f fd ["d", "rows"] (spTurn K) := by
  refine F.ok sc__law_turned (fun vs H Q E h => ?_) (fun cdv A outer s H vs Q E hr h => ?_)
  · obtain ⟨S, D, L, b, n, zs, C, rfl, _⟩ := h
    rfl
  · obtain ⟨S, D, L, b, n, zs, C, rfl, d, LD, hL, hzs, ok, n1, n2, q⟩ := h
    refine ⟨_, PSs.nox (pss_cons (ps_set (i := 2) sc__law_turned.nd rfl (Or.inl rfl) (pe_callB call_len (by rfl) T.b_len (by decide +kernel) (pa_cons (pv 1) pa_nil)))
      (pss_cons (ps_set (i := 3) sc__law_turned.nd rfl (Or.inr rfl) (pe_op op_cat (pe_lst (pa_cons pe_int pa_nil)) (pe_d D__law_shuffled (hr.mono (by decide)) (by rfl) (pa_cons (pv 0) (pa_cons (pe_listRg rfl rfl T.b_list (prg_2 rfl T.b_range pe_int (pv 2))) pa_nil)))))
      (pss_cons (ps_set (i := 4) sc__law_turned.nd rfl (Or.inl rfl) (pe_lst pa_nil))
      (pss_cons (ps_for PassesOwn.never rfl (pi_list (pv 3)) (pg_name (i := 5) sc__law_turned.nd rfl (Or.inl rfl)) (pss_one (ps_expr (pe_bm PySem.F.plainAttrs_list PySem.F.slot_list_append PySem.F.type_list_append mt_append (pv 4) (pa_cons (pe_callTy (tupOfT (K := K) rfl) (by rfl) T.b_tuple (by decide +kernel) (pa_cons (pe_lc (own := [("digits", 6), ("shown", 7), ("there", 8)]) (g := (gTup K 3 (gCons (gName 6) (gCons (gName 7) (gCons (gName 8) gNil))))) (tt := tYes) rfl sc__law_turned.nd (pi_tup (pe_ix ix_list (pv 1) (pv 5) (fun _ _ => rfl))) (blkOk_by (N := N__law_turned) (sc := defScope s__law_turned) (by decide +kernel)) (fun _ _ _ _ _ => (pg_tup rfl (pgs_cons (pg_name (i := 6) sc__law_turned.nd rfl (Or.inl rfl)) (pgs_cons (pg_name (i := 7) sc__law_turned.nd rfl (Or.inl rfl)) (pgs_cons (pg_name (i := 8) sc__law_turned.nd rfl (Or.inl rfl)) pgs_nil))))) (fun _ _ _ _ _ => pts_nil) (fun _ _ _ _ _ => (pe_tup (pa_cons (pv 6) (pa_cons (pv 7) (pa_cons (castBM (K := K) rfl (pe_bm PySem.F.plainAttrs_list PySem.F.slot_list_index PySem.F.type_list_index (mtIxK (K := K) rfl) (pv 3) (pa_cons (pv 8) pa_nil))) pa_nil)))))) pa_nil)) pa_nil)))))
      (pss_one (ps_ret (pv 4))))))), ?_⟩
    have zl := dpA_len hzs
    rw [List.length_map, ok.len] at zl
    refine ⟨_, rfl, _, _, rfl, .inl ⟨_, SqL.of hL, rfl⟩, ?_⟩
    rw [zl]
    refine ⟨by show 1 ≤ sizeLine; decide, fun q0 hq0 => ?_⟩
    have g0 := Go.new (o := .lst [.int 0]) d hq0
    have q0D := (d.free hq0).1
    have hq01 := upd_same (H := H) (a := q0) (o := .lst [.int 0])
    generalize upd H q0 (.lst [.int 0]) = H1 at g0 hq01
    refine ⟨_, rfl, _, rfl, 1, (n : Int), rfl, rfl, RgOk.of_le (by decide) (by omega) (by decide) (by omega), fun q1 hq1 => ?_⟩
    have g1 := g0.trans (Go.new (o := .lst (rgV 1 (n : Int))) g0.1 hq1)
    have hq11 := upd_same (H := H1) (a := q1) (o := .lst (rgV 1 (n : Int)))
    have hq02 := same_new (o := .lst (rgV 1 (n : Int))) hq1 _ _ hq01
    generalize upd H1 q1 (.lst (rgV 1 (n : Int))) = H2 at g1 hq11 hq02
    refine ⟨S, D, q1, _, rfl, g1.1, SqL.of hq11, by rw [rgV_length]; omega, fun H3 q2 ys g3 hq20 hq2 hp => ?_⟩
    obtain ⟨os, hos, eos⟩ := ord_of n1 hp
    have yl := hp.length_eq
    rw [rgV_length] at yl
    refine ⟨q0, q2, _, ys, rfl, rfl, g3.2 _ _ hq02 q0D, hq2, line5 (by show 1 + _ ≤ _; omega), fun Lo hLo => ?_⟩
    rw [eos]
    have osl : os.length = n := by rw [hos.length_eq, List.length_range]
    have g4 := (g1.trans g3).trans (Go.new (o := .lst (os.map vN)) g3.1 hLo)
    have LoD := (g3.1.free hLo).1
    have hLo4 := upd_same (H := H3) (a := Lo) (o := .lst (os.map vN))
    generalize upd H3 Lo (.lst (os.map vN)) = H4 at g4 hLo4
    refine ⟨Nat.zero_le _, fun f hf => ?_⟩
    have f0 := g4.free d hf
    have g5 := g4.trans (Go.new (o := .lst []) g4.1 hf)
    have hLo5 := same_new (o := .lst []) hf _ _ hLo4
    have hf5 := upd_same (H := H4) (a := f) (o := .lst [])
    have fLo : f ≠ Lo := (ne_of_none hLo4 hf).symm
    have fD := (g4.1.free hf).1
    generalize upd H4 f (.lst []) = H5 at g5 hLo5 hf5
    have fL : f ≠ L := (ne_of_none hL f0).symm
    refine ⟨_, rfl, Lo, rfl, ⟨_, SqL.of hLo5⟩, for_list (K := K) (a := Lo) (xs := os.map vN) (fun i σ H' => ∃ (y5 : Option V) (qs : List V) (C' : Chn), σ = [some (.ref D), some (.ref L), some (.int n), some (.ref Lo), some (.ref f), y5, none, none, none] ∧ Go S D H H' ∧ H' Lo = some (.lst (os.map vN)) ∧ H' f = some (.lst qs) ∧ DpAll K H' qs (C'.map dRw) ∧ C'.length = i ∧ ∀ r ∈ C', RwOk b n r) ⟨_, [], [], rfl, g5, hLo5, hf5, .nil, rfl, fun _ h => absurd h List.not_mem_nil⟩ (fun i σ H' _ ⟨_, _, _, _, _, h, _⟩ => SqL.of h) ?_ ?_⟩
    · rintro i x σ H6 hi ⟨y5, qs, C', rfl, g6, hLo6, hf6, hqs, hC', okC'⟩
      obtain ⟨sI, hsI, rfl⟩ : ∃ sI, os[i]? = some sI ∧ vN sI = x := by
        rw [List.getElem?_map] at hi
        cases e : os[i]? with
        | none =>
          rw [e] at hi
          cases hi
        | some z =>
          rw [e] at hi
          exact ⟨z, rfl, Option.some.inj hi⟩
      have il := (List.getElem?_eq_some_iff.mp hsI).1
      have sn : sI < C.length := by
        rw [ok.len]
        exact List.mem_range.mp (hos.mem_iff.mp (List.mem_of_getElem? hsI))
      obtain ⟨xr, hxr, hdr⟩ := dpA_get (dpA_keep (Go.keepT d g6) _ _ (noLs_rw C) hzs) (rowOf_at sn)
      obtain ⟨pr, rs, rfl, hpr, hrs⟩ := dp_tup hdr
      have rl := dpA_len hrs
      rw [List.length_map] at rl
      have okr := ok.row _ (List.mem_of_getElem? (rowOf_at sn))
      have few := okr.few
      have ql := dpA_len hqs
      rw [List.length_map] at ql
      have hL6 := g6.2 _ _ hL LD
      refine ⟨_, rfl, .inl ⟨rfl, _, SqL.of hf6⟩, _, rfl, _, rfl, L, zs, _, _, rfl, rfl, SqL.of hL6, atI_nat hxr, pr, rfl, ⟨_, hpr⟩, fun M hM => lc_tup (K := K) (a := pr) (xs := rs) (fun j H' => Same H6 H' ∧ ∃ (us : List V) (r' : List Br), H' M = some (.lst us) ∧ DpAll K H' us (r'.map dBr) ∧ r'.map (·.1) = ((rowOf C sI).map (·.1)).take j ∧ ∀ b ∈ r', b.2.2 < n ∧ b.2.1.length ≤ 6) ⟨same_new hM, [], [], upd_same, .nil, rfl, fun _ h => absurd h List.not_mem_nil⟩ (fun j H' _ e => same_t e.1 hpr) ?_ ?_⟩
      · rintro j y H7 hj ⟨s7, us, r', hM7, hus, er, hr'⟩
        obtain ⟨br, hbr, hy⟩ := dpA_mem hrs hj
        obtain ⟨pb, x0, x1, rfl, hpb, hd0, hd1⟩ := br_at hy
        have okb := okr.to br (List.mem_of_getElem? hbr)
        have jl := (List.getElem?_eq_some_iff.mp hbr).1
        have ul := dpA_len hus
        rw [List.length_map] at ul
        have rl' : r'.length = j := by
          have := congrArg List.length er
          rw [List.length_map, List.length_take, List.length_map] at this
          omega
        obtain ⟨at', ha1, ha2⟩ := first_at (hos.mem_iff.mpr (List.mem_range.mpr okb.1))
        have atl := (List.getElem?_eq_some_iff.mp ha1).1
        refine ⟨_, _, rfl, same_t s7 hpb, rfl, _, _, rfl, _, _, rfl, _, _, rfl, rfl, rfl, ?_⟩
        refine ⟨_, rfl, _, rfl, _, rfl, .inl ⟨rfl, _, SqL.of (s7 _ _ hLo6)⟩, _, rfl, Lo, os.map vN, _, at', vN br.2.2, rfl, rfl, SqL.of (s7 _ _ hLo6), rfl, flat_vN os, by rw [List.getElem?_map, ha1]; rfl, ?_, ?_, by show 3 ≤ sizeLine; decide, fun pn hpn => ?_⟩
        · show (((br.2.2 : Nat) : Int) == ((br.2.2 : Nat) : Int)) = true
          exact beq_self_eq_true _
        · intro m z' hm hz
          rw [List.getElem?_map] at hz
          obtain ⟨z, hz2, rfl⟩ := Option.map_eq_some_iff.mp hz
          show (((z : Nat) : Int) == ((br.2.2 : Nat) : Int)) = false
          have := ha2 m z hm hz2
          refine beq_eq_false_iff_ne.mpr fun e => this ?_
          omega
        · have s8 := same_new (o := .tup [x0, x1, .int (at' : Int)]) hpn
          have hpn8 := upd_same (H := H7) (a := pn) (o := .tup [x0, x1, .int (at' : Int)])
          generalize upd H7 pn (.tup [x0, x1, .int (at' : Int)]) = H8 at s8 hpn8
          have hM8 := s8 _ _ hM7
          have kM := keepT_nt (o := .lst (us ++ [.ref pn])) (nt_lst _) hM8
          have s68 := s7.trans s8
          refine ⟨us, hM8, line6 (by omega), same_mut s68 hM, us ++ [.ref pn], r' ++ [(br.1, br.2.1, at')], upd_same, ?_, ?_, fun z hz => ?_⟩
          · rw [List.map_append]
            exact dpA_snoc (dpA_keep kM _ _ (noLs_br r') (dpA_same s8 _ _ hus)) (dp_keep kM _ _ (dBr_noL _) (.tup (SqT.of hpn8) (.cons (dp_same s68 _ _ hd0) (.cons (dp_same s68 _ _ hd1) (.cons (.int _) .nil)))))
          · rw [List.map_append, er, List.take_add_one, List.getElem?_map, hbr]
            rfl
          · rcases List.mem_append.mp hz with h | h
            · exact hr' z h
            · rw [List.mem_singleton.mp h]
              exact ⟨by show at' < n; omega, okb.2⟩
      · rintro H7 ⟨s7, us, r', hM7, hus, er, hr'⟩
        rw [rl, ← List.length_map (f := fun b : Br => b.1), List.take_length] at er
        have rl' : r'.length = (rowOf C sI).length := by
          have := congrArg List.length er
          rw [List.length_map, List.length_map] at this
          exact this
        refine ⟨M, us, rfl, .inl ⟨SqL.of hM7, fun pt hpt => ?_⟩⟩
        have s8 := same_new (o := .tup us) hpt
        have hpt8 := upd_same (H := H7) (a := pt) (o := .tup us)
        generalize upd H7 pt (.tup us) = H8 at s8 hpt8
        have s68 := s7.trans s8
        have hf8 := s68 _ _ hf6
        have kf := keepT_nt (o := .lst (qs ++ [.ref pt])) (nt_lst _) hf8
        refine ⟨f, qs, _, rfl, rfl, hf8, line6 (by omega), _, qs ++ [.ref pt], C' ++ [r'], rfl, goU f0 d (g6.trans (Go.same g6.1 s68)), ?_, upd_same, ?_, by rw [List.length_append, hC']; rfl, fun r hr => ?_⟩
        · rw [upd_ne fLo.symm]
          exact s68 _ _ hLo6
        · rw [List.map_append]
          exact dpA_snoc (dpA_keep kf _ _ (noLs_rw C') (dpA_same s68 _ _ hqs)) (dp_keep kf _ _ (dRw_noL _) (.tup (SqT.of hpt8) (dpA_same s8 _ _ hus)))
        · rcases List.mem_append.mp hr with h | h
          · exact okC' r h
          · rw [List.mem_singleton.mp h]
            exact ⟨by rw [rl']; exact okr.ne, by rw [rl']; exact okr.few, hr', by rw [er]; exact okr.cm⟩
    · rintro σ H6 ⟨y5, qs, C', rfl, g6, hLo6, hf6, hqs, hC', okC'⟩
      rw [List.length_map, osl] at hC'
      exact ⟨_, rfl, q _ f qs C' g6 f0 hf6 hqs ⟨hC', okC'⟩⟩
end
end Mt
namespace Mt
open PySem PySem.Spec PyProof.Rows L2
theorem cat_D {K : PySem.W.Frag} {H : Hp} {a b : Addr} {xs ys : List V} {ds es : List PyData} (ha : SqT K H a xs) (hb : SqT K H b ys) (h1 : DpAll K H xs ds) (h2 : DpAll K H ys es) (hl : ds.length + es.length ≤ 1000) : rCatA K (.ref a) (.ref b) H (fun v H' => Same H H' ∧ Dp K H' v (.tuple (ds ++ es))) := by
  have l1 := dpA_len h1
  have l2 := dpA_len h2
  refine ⟨a, b, xs, ys, rfl, rfl, ha, hb, line5 (by omega), fun e => ?_, fun _ e => ?_, fun _ _ p hp => ?_⟩
  · subst e
    have : ds = [] := List.length_eq_zero_iff.mp l1.symm
    subst this
    exact ⟨Same.refl _, .tup hb h2⟩
  · subst e
    have : es = [] := List.length_eq_zero_iff.mp l2.symm
    subst this
    rw [List.append_nil]
    exact ⟨Same.refl _, .tup ha h1⟩
  · have s := same_new (o := .tup (xs ++ ys)) hp
    exact ⟨s, .tup (SqT.of upd_same) (dpA_app (dpA_same s _ _ h1) (dpA_same s _ _ h2))⟩
theorem dpA_set {K : PySem.W.Frag} {H : Hp} : ∀ {ds : List PyData} {xs : List V} (j : Nat) {v : V} {d : PyData}, DpAll K H xs ds → Dp K H v d → DpAll K H (xs.set j v) (ds.set j d)
  | [], _, j, _, _, h, _ => by
    rw [dpA_nil h]
    exact .nil
  | d0 :: ds, _, 0, _, _, h, hv => by
    obtain ⟨x, r, rfl, h1, h2⟩ := dpA_cons h
    exact .cons hv h2
  | d0 :: ds, _, j + 1, _, _, h, hv => by
    obtain ⟨x, r, rfl, h1, h2⟩ := dpA_cons h
    exact .cons h1 (dpA_set j h2 hv)
theorem dpA_take {K : PySem.W.Frag} {H : Hp} : ∀ {ds : List PyData} {xs : List V} (j : Nat), DpAll K H xs ds → DpAll K H (xs.take j) (ds.take j)
  | [], _, j, h => by
    rw [dpA_nil h]
    simp only [List.take_nil]
    exact .nil
  | d0 :: ds, _, 0, h => .nil
  | d0 :: ds, _, j + 1, h => by
    obtain ⟨x, r, rfl, h1, h2⟩ := dpA_cons h
    exact .cons h1 (dpA_take j h2)
theorem dpA_drop {K : PySem.W.Frag} {H : Hp} : ∀ {ds : List PyData} {xs : List V} (j : Nat), DpAll K H xs ds → DpAll K H (xs.drop j) (ds.drop j)
  | [], _, j, h => by
    rw [dpA_nil h]
    simp only [List.drop_nil]
    exact .nil
  | d0 :: ds, _, 0, h => h
  | d0 :: ds, _, j + 1, h => by
    obtain ⟨x, r, rfl, h1, h2⟩ := dpA_cons h
    exact dpA_drop j h2
theorem cut_to {xs : List V} {k : Nat} (h : k ≤ xs.length) : cutV xs none (some (k : Int)) = xs.take k := by
  unfold cutV
  rw [HT.sIx_none, HT.sIx_nat, Nat.min_eq_left h, List.drop_zero, Nat.sub_zero]
theorem cut_from {xs : List V} {k : Nat} (h : k ≤ xs.length) : cutV xs (some (k : Int)) none = xs.drop k := by
  unfold cutV
  rw [HT.sIx_none, HT.sIx_nat, Nat.min_eq_left h]
  exact List.take_of_length_le (by rw [List.length_drop]; exact Nat.le_refl _)
def spSChain (K : PySem.W.Frag) : Sp := fun vs H Q _ => ∃ (S D m : Addr) (n : Int) (u v : Str), vs = [.ref D, .ref m, .int n] ∧ DrawAt S D H ∧ m ≠ D ∧ H m = some (.lst [.str u, .str v]) ∧ 1 ≤ n ∧ n ≤ 50 ∧
  ∀ (H' : Hp) (x : V) (base : Int) (C : Chn), Go S D H H' → Dp K H' x (dChn base C) → ChnOk base C → Q x H'
section
variable {P : Program} {w : World} {K : PySem.W.Frag} {mg : Str → Option Value} {base : Heap}
theorem ok__law_silent_chain (T : Txt K mg) (D__law_draw : Kept P w K mg base 1 "_law_draw" ["d", "many"] spDraw) (D__law_pick : Kept P w K mg base 2 "_law_pick" ["d", "row"] (spPick K)) (D__law_rare : Kept P w K mg base 2 "_law_rare" ["d", "many"] spRare) (D__law_downhill : Kept P w K mg base 3 "_law_downhill" ["d", "base", "states", "mark", "other"] (spDown K)) (D__law_turned : Kept P w K mg base 3 "_law_turned" ["d", "rows"] (spTurn K)) (D__law_wide_chain : Kept P w K mg base 4 "_law_wide_chain" ["d", "base", "states", "marks"] (spWChain K)) {f : Addr} {fd : FuncData} (F : FnP K "_law_silent_chain" s__law_silent_chain f fd) : FnOk P w K mg base CX0 5 f fd ["d", "marks", "most"] (spSChain K) := by
  refine F.ok sc__law_silent_chain (fun vs H Q E h => ?_) (fun cdv A outer s H vs Q E hr h => ?_)
  · obtain ⟨S, D, m, n, u, v, rfl, _⟩ := h
    rfl
  · obtain ⟨S, D, m, n, u, w', rfl, d, nD, hm, n1, n2, q⟩ := h
    refine ⟨_, PSs.nox (pss_cons (ps_set (i := 3) sc__law_silent_chain.nd rfl (Or.inl rfl) (pe_op op_add pe_int (pe_d D__law_draw (hr.mono (by decide)) (by rfl) (pa_cons (pv 0) (pa_cons pe_int pa_nil)))))
      (Evl.pss_cut (ps_if (pt_val (pe_d D__law_rare (hr.mono (by decide)) (by rfl) (pa_cons (pv 0) (pa_cons pe_int pa_nil)))) (pss_one (ps_set (i := 3) sc__law_silent_chain.nd rfl (Or.inl rfl) pe_int)) pss_nil)
      (pss_cons (ps_set (i := 4) sc__law_silent_chain.nd rfl (Or.inl rfl) (pe_op op_add pe_int (pe_d D__law_draw (hr.mono (by decide)) (by rfl) (pa_cons (pv 0) (pa_cons pe_int pa_nil)))))
      (Evl.pss_cut (ps_if (pt_val (pe_d D__law_rare (hr.mono (by decide)) (by rfl) (pa_cons (pv 0) (pa_cons pe_int pa_nil)))) (pss_one (ps_set (i := 4) sc__law_silent_chain.nd rfl (Or.inl rfl) (pv 2))) pss_nil)
      (pss_cons (ps_if (pt_cmpR op_eq (pe_d D__law_draw (hr.mono (by decide)) (by rfl) (pa_cons (pv 0) (pa_cons pe_int pa_nil))) pe_int (nomark _)) (pss_one (ps_ret (pe_d D__law_wide_chain (hr.mono (by decide)) (by rfl) (pa_cons (pv 0) (pa_cons (pv 3) (pa_cons (pv 4) (pa_cons (pv 1) pa_nil))))))) pss_nil)
      (pss_cons (ps_set (i := 5) sc__law_silent_chain.nd rfl (Or.inl rfl) (pe_d D__law_turned (hr.mono (by decide)) (by rfl) (pa_cons (pv 0) (pa_cons (pe_d D__law_downhill (hr.mono (by decide)) (by rfl) (pa_cons (pv 0) (pa_cons (pv 3) (pa_cons (pv 4) (pa_cons (pe_ix ix_list (pv 1) pe_int (fun _ _ => rfl)) (pa_cons (pe_ix ix_list (pv 1) pe_int (fun _ _ => rfl)) pa_nil)))))) pa_nil))))
      (Evl.pss_cut (ps_if (pt_cmpR op_eq (pe_d D__law_draw (hr.mono (by decide)) (by rfl) (pa_cons (pv 0) (pa_cons pe_int pa_nil))) pe_int (nomark _)) (pss_cons (ps_set (i := 6) sc__law_silent_chain.nd rfl (Or.inl rfl) (pe_d D__law_draw (hr.mono (by decide)) (by rfl) (pa_cons (pv 0) (pa_cons (pv 4) pa_nil))))
      (pss_cons (ps_set (i := 7) sc__law_silent_chain.nd rfl (Or.inl rfl) (pe_d D__law_draw (hr.mono (by decide)) (by rfl) (pa_cons (pv 0) (pa_cons (pe_callB call_len (by rfl) T.b_len (by decide +kernel) (pa_cons (pe_ix ix_list (pv 5) (pv 6) (fun _ _ => rfl)) pa_nil)) pa_nil))))
      (pss_cons (ps_set (i := 8) sc__law_silent_chain.nd rfl (Or.inl rfl) (pe_tup (pa_cons (pe_ix ix_tup (pe_ix ix_tup (pe_ix ix_list (pv 5) (pv 6) (fun _ _ => rfl)) (pv 7) (fun _ _ => rfl)) pe_int (fun _ _ => rfl)) (pa_cons (pe_d D__law_pick (hr.mono (by decide)) (by rfl) (pa_cons (pv 0) (pa_cons (pe_lst (pa_cons (pe_tup pa_nil) (pa_cons (pe_tup (pa_cons (pe_ix ix_list (pv 1) pe_int (fun _ _ => rfl)) pa_nil)) pa_nil))) pa_nil))) (pa_cons (pe_d D__law_draw (hr.mono (by decide)) (by rfl) (pa_cons (pv 0) (pa_cons (pv 4) pa_nil))) pa_nil)))))
      (pss_one (ps_asg (pe_op op_catA (pe_op op_catA (pe_slice sl_tupA (pe_ix ix_list (pv 5) (pv 6) (fun _ _ => rfl)) po_none (po_some (pv 7))) (pe_tup (pa_cons (pv 8) pa_nil))) (pe_slice sl_tupA (pe_ix ix_list (pv 5) (pv 6) (fun _ _ => rfl)) (po_some (pe_op op_add (pv 7) pe_int)) po_none)) (pg_sub (pv 5) (pv 6) set_list)))))) pss_nil)
      (pss_one (ps_ret (pe_tup (pa_cons pe_str (pa_cons (pv 3) (pa_cons (pe_callTy (tupOfT (K := K) rfl) (by rfl) T.b_tuple (by decide +kernel) (pa_cons (pv 5) pa_nil)) pa_nil))))))))))))), ?_⟩
    refine ⟨_, rfl, S, D, 2, rfl, divW_of (by decide) (by decide), d, fun H1 v v0 v1 g1 => ⟨_, _, rfl, rfl, ?_⟩⟩
    refine ⟨fun σ' H' => ∃ b : Int, σ' = [some (.ref D), some (.ref m), some (.int n), some (.int b), none, none, none, none, none] ∧ 2 ≤ b ∧ b ≤ 6 ∧ Go S D H H', ?_, ?_⟩
    · refine ⟨_, rfl, S, D, 7, rfl, by decide, by decide, g1.1, fun H2 bb g2 => ?_⟩
      exact ⟨_, rfl, ite2 (fun _ => ⟨6, rfl, by decide, by decide, g1.trans g2⟩) (fun _ => ⟨2 + v, rfl, by omega, by omega, g1.trans g2⟩)⟩
    · rintro σ' H2 ⟨b, rfl, b2, b6, g2⟩
      refine ⟨_, rfl, S, D, 5, rfl, divW_of (by decide) (by decide), g2.1, fun H3 x x0 x1 g3 => ⟨_, _, rfl, rfl, ?_⟩⟩
      have g3 := g2.trans g3
      refine ⟨fun σ' H' => ∃ c : Int, σ' = [some (.ref D), some (.ref m), some (.int n), some (.int b), some (.int c), none, none, none, none] ∧ 1 ≤ c ∧ c ≤ 50 ∧ Go S D H H', ?_, ?_⟩
      · refine ⟨_, rfl, S, D, 9, rfl, by decide, by decide, g3.1, fun H4 bb g4 => ?_⟩
        exact ⟨_, rfl, ite2 (fun _ => ⟨_, rfl, n, rfl, n1, n2, g3.trans g4⟩) (fun _ => ⟨1 + x, rfl, by omega, by omega, g3.trans g4⟩)⟩
      · rintro σ' H4 ⟨c, rfl, c1, c2, g4⟩
        refine ⟨_, rfl, S, D, 4, rfl, divW_of (by decide) (by decide), g4.1, fun H5 y y0 y1 g5 => ⟨rfl, _, rfl, ?_⟩⟩
        have g5 := g4.trans g5
        refine ite2 (fun _ => ?_) (fun _ => ?_)
        · exact ⟨_, rfl, _, rfl, _, rfl, _, rfl, S, D, m, b, c, [u, w'], rfl, g5.1, nD, g5.2 _ _ hm nD, (by show 0 < 2; decide), (by show 2 ≤ 100; decide), b2, b6, c1, c2, fun H6 vc C g6 hC okC _ => q H6 vc b C (g5.trans g6) hC okC⟩
        · have hm5 := g5.2 _ _ hm nD
          refine ⟨_, rfl, _, rfl, _, rfl, _, rfl, _, rfl, m, _, _, _, rfl, rfl, SqL.of hm5, atI_nat (j := 0) rfl, _, rfl, m, _, _, _, rfl, rfl, SqL.of hm5, atI_nat (j := 1) rfl, S, D, b, c, u, w', rfl, g5.1, b2, b6, c1, c2, fun H6 L6 zs6 C6 g6 L60 hL6 hzs6 ok6 => ?_⟩
          have g6 := g5.trans g6
          have L6D := (g5.1.free L60).1
          refine ⟨S, D, L6, b, c.toNat, zs6, C6, rfl, g6.1, L6D, hL6, hzs6, ok6, by omega, by omega, fun H7 L zs C g7 L0 hL hzs okC => ?_⟩
          have LD := (g6.1.free L0).1
          have L0' : H L = none := g6.free d L0
          have g7 := g6.trans g7
          refine ⟨fun σ' H' => ∃ (y6 y7 y8 : Option V) (zs : List V) (C : Chn), σ' = [some (.ref D), some (.ref m), some (.int n), some (.int b), some (.int c), some (.ref L), y6, y7, y8] ∧ Go S D H H' ∧ H' L = some (.lst zs) ∧ DpAll K H' zs (C.map dRw) ∧ RsOk b c.toNat C, ?_, ?_⟩
          · refine ⟨_, rfl, S, D, 2, rfl, divW_of (by decide) (by decide), g7.1, fun H8 z z0 z1 g8 => ⟨rfl, _, rfl, ?_⟩⟩
            have hL8 := g8.2 _ _ hL LD
            have hzs8 := dpA_keep (Go.keepT g7.1 g8) _ _ (noLs_rw C) hzs
            have g8 := g7.trans g8
            refine ite2 (fun _ => ?_) (fun _ => ⟨_, _, _, zs, C, rfl, g8, hL8, hzs8, okC⟩)
            refine ⟨_, rfl, _, rfl, S, D, c, rfl, divW_of (by omega) (by omega), g8.1, fun H9 sv s0 s1 g9 => ?_⟩
            obtain ⟨sN, rfl⟩ : ∃ k : Nat, sv = (k : Int) := ⟨sv.toNat, by omega⟩
            have sn : sN < C.length := by
              rw [okC.len]
              omega
            have hL9 := g9.2 _ _ hL8 LD
            have hzs9 := dpA_keep (Go.keepT g8.1 g9) _ _ (noLs_rw C) hzs8
            have g9' := g8.trans g9
            obtain ⟨xr, hxr, hdr⟩ := dpA_get hzs9 (rowOf_at sn)
            have okr := okC.row _ (List.mem_of_getElem? (rowOf_at sn))
            generalize hr0 : rowOf C sN = r at hdr okr
            obtain ⟨pr, rs, rfl, hpr, hrs⟩ := dp_tup hdr
            have rl := dpA_len hrs
            rw [List.length_map] at rl
            have ne := okr.ne
            have few := okr.few
            refine ⟨_, rfl, _, rfl, _, rfl, L, zs, _, _, rfl, rfl, SqL.of hL9, atI_nat hxr, _, _, rfl, .inr ⟨_, hpr, rfl⟩, S, D, _, rfl, divW_of (by omega) (by omega), g9.1, fun H10 kv k0 k1 g10 => ?_⟩
            obtain ⟨kN, rfl⟩ : ∃ k : Nat, kv = (k : Int) := ⟨kv.toNat, by omega⟩
            have kn : kN < r.length := by omega
            obtain ⟨br, hbr⟩ : ∃ br, r[kN]? = some br := ⟨_, getElem?_lt kn⟩
            obtain ⟨xb, hxb, hdb⟩ := dpA_get hrs hbr
            obtain ⟨pb, x0', x1', rfl, hpb, hd0, hd1⟩ := br_at hdb
            have okb := okr.to br (List.mem_of_getElem? hbr)
            have k10 := Go.keepT g9.1 g10
            have g10' := g9'.trans g10
            have hm10 := g10'.2 _ _ hm nD
            have hL10 := g10.2 _ _ hL9 LD
            refine ⟨_, rfl, _, rfl, L, zs, _, _, rfl, rfl, SqL.of hL10, atI_nat hxr, _, rfl, pr, rs, _, _, rfl, rfl, sqt_keep k10 hpr, atI_nat hxb, pb, _, _, _, rfl, rfl, sqt_keep k10 hpb, atI_nat (j := 0) rfl, ?_⟩
            refine ⟨_, rfl, Nat.zero_le _, fun p1 hp1 => ⟨_, rfl, m, _, _, _, rfl, rfl, SqL.of (same_new hp1 _ _ hm10), atI_nat (j := 1) rfl, by show 1 ≤ sizeLine; decide, fun p2 hp2 => ⟨by show 2 ≤ sizeLine; decide, fun l hl0 => ?_⟩⟩⟩
            have u1 := same_new (o := .tup []) hp1
            have u2 := same_new (o := .tup [.str w']) hp2
            have u4 := same_new (o := .lst [.ref p1, .ref p2]) hl0
            have a1 := (u2.trans u4) _ _ (upd_same (H := H10) (a := p1) (o := .tup []))
            have a2 := u4 _ _ (upd_same (H := upd H10 p1 (.tup [])) (a := p2) (o := .tup [.str w']))
            have a4 := upd_same (H := upd (upd H10 p1 (.tup [])) p2 (.tup [.str w'])) (a := l) (o := .lst [.ref p1, .ref p2])
            have g11 := Go.same g10.1 (u1.trans (u2.trans u4))
            have lD := ((Go.same g10.1 (u1.trans u2)).1.free hl0).1
            generalize upd (upd (upd H10 p1 (.tup [])) p2 (.tup [.str w'])) l (.lst [.ref p1, .ref p2]) = H11 at a1 a2 a4 g11
            refine ⟨S, D, .ref l, _, rfl, g11.1, fun H' g => .inr (.inl ⟨l, rfl, SqL.of (g.2 _ _ a4 lD)⟩), by show 0 < 2; decide, by show 2 ≤ 100000; decide, fun H12 y hy g12 => ?_⟩
            obtain ⟨p, ss, rfl, hsl, hss⟩ : ∃ p ss, y = .ref p ∧ ss.length ≤ 6 ∧ Dp K H12 (.ref p) (dSh ss) := by
              have k := Go.keepT g11.1 g12
              simp only [List.mem_cons, List.not_mem_nil, or_false] at hy
              rcases hy with e | e
              · exact ⟨p1, [], e, by show 0 ≤ 6; decide, sh_of (sqt_keep k (SqT.of a1))⟩
              · exact ⟨p2, [w'], e, by show 1 ≤ 6; decide, sh_of (sqt_keep k (SqT.of a2))⟩
            refine ⟨_, rfl, _, rfl, S, D, c, rfl, divW_of (by omega) (by omega), g12.1, fun H13 tv t0 t1 g13 => ⟨by show 3 ≤ sizeLine; decide, fun pn hpn => ?_⟩⟩
            obtain ⟨tN, rfl⟩ : ∃ k : Nat, tv = (k : Int) := ⟨tv.toNat, by omega⟩
            have g13' := g11.trans (g12.trans g13)
            have hss13 := dp_keep (Go.keepT g12.1 g13) _ _ (dSh_noL ss) hss
            have gn := g13'.trans (Go.new (o := .tup [x0', .ref p, .int (tN : Int)]) g13.1 hpn)
            have hss14 := dp_same (same_new (o := .tup [x0', .ref p, .int (tN : Int)]) hpn) _ _ hss13
            have hpn14 := upd_same (H := H13) (a := pn) (o := .tup [x0', .ref p, .int (tN : Int)])
            generalize upd H13 pn (.tup [x0', .ref p, .int (tN : Int)]) = H14 at gn hss14 hpn14
            have k14 := k10.trans (Go.keepT g10.1 gn)
            have hL14 := gn.2 _ _ hL10 LD
            have hbn : Dp K H14 (.ref pn) (dBr (br.1, ss, tN)) := .tup (SqT.of hpn14) (.cons (dp_keep k14 _ _ (dI_noL _) hd0) (.cons hss14 (.cons (.int _) .nil)))
            have hrs14 := dpA_keep k14 _ _ (noLs_br r) hrs
            have hpr14 := sqt_keep k14 hpr
            have hzs14 := dpA_keep k14 _ _ (noLs_rw C) hzs9
            have ec1 := cut_to (xs := rs) (k := kN) (by omega)
            have ec2 : cutV rs (some ((kN : Int) + 1)) none = rs.drop (kN + 1) := cut_from (xs := rs) (k := kN + 1) (by omega)
            refine ⟨_, rfl, _, rfl, L, zs, _, _, rfl, rfl, SqL.of hL14, atI_nat hxr, _, rfl, _, rfl, pr, rs, rfl, hpr14, fun hw => ?_, fun _ p6 hp6 => ?_⟩
            · rw [HT.sIx_nat] at hw
              omega
            rw [ec1]
            have s6 := same_new (o := .tup (rs.take kN)) hp6
            have hp61 := upd_same (H := H14) (a := p6) (o := .tup (rs.take kN))
            generalize upd H14 p6 (.tup (rs.take kN)) = H15 at s6 hp61
            refine ⟨_, rfl, by show 1 ≤ sizeLine; decide, fun p7 hp7 => ?_⟩
            have s7 := same_new (o := .tup [.ref pn]) hp7
            have hp71 := upd_same (H := H15) (a := p7) (o := .tup [.ref pn])
            have hp62 := s7 _ _ hp61
            generalize upd H15 p7 (.tup [.ref pn]) = H16 at s7 hp71 hp62
            have s67 := s6.trans s7
            refine catA_mono (cat_D (SqT.of hp62) (SqT.of hp71) (dpA_take kN (dpA_same s67 _ _ hrs14)) (.cons (dp_same s67 _ _ hbn) .nil) (by rw [List.length_take, List.length_map]; show _ + 1 ≤ _; omega)) fun v8 H17 ⟨s8, d8⟩ => ?_
            have s68 := s67.trans s8
            obtain ⟨p8, xs8, rfl, hp8, hx8⟩ := dp_tup d8
            refine ⟨_, rfl, _, rfl, L, zs, _, _, rfl, rfl, SqL.of (s68 _ _ hL14), atI_nat hxr, _, rfl, _, _, rfl, rfl, _, rfl, pr, rs, rfl, same_t s68 hpr14, fun hw => ?_, fun _ p9 hp9 => ?_⟩
            · have e : ((kN : Int) + 1) = ((kN + 1 : Nat) : Int) := by omega
              have h0 := hw.1
              exfalso
              rw [show (some ((kN : Int) + 1) : Option Int) = some ((kN + 1 : Nat) : Int) from congrArg some e] at h0
              rw [HT.sIx_nat] at h0
              omega
            rw [ec2]
            have s9 := same_new (o := .tup (rs.drop (kN + 1))) hp9
            have hp91 := upd_same (H := H17) (a := p9) (o := .tup (rs.drop (kN + 1)))
            generalize upd H17 p9 (.tup (rs.drop (kN + 1))) = H18 at s9 hp91
            refine catA_mono (cat_D (same_t s9 hp8) (SqT.of hp91) (dpA_same s9 _ _ hx8) (dpA_drop (kN + 1) (dpA_same (s68.trans s9) _ _ hrs14)) (by rw [List.length_append, List.length_take, List.length_drop, List.length_map]; show _ + 1 + _ ≤ _; omega)) fun v10 H19 ⟨s10, d10⟩ => ?_
            have s1419 := (s68.trans s9).trans s10
            have hL19 := s1419 _ _ hL14
            have er' : (r.take kN ++ [(br.1, ss, tN)] ++ r.drop (kN + 1)).map (·.1) = r.map (·.1) := by
              have e1 : r = r.take kN ++ [br] ++ r.drop (kN + 1) := by
                rw [List.append_assoc]
                have : r.drop kN = [br] ++ r.drop (kN + 1) := by
                  rw [List.drop_eq_getElem_cons kn]
                  rw [List.getElem?_eq_getElem kn] at hbr
                  rw [Option.some.inj hbr]
                  rfl
                rw [← this, List.take_append_drop]
              conv => rhs; rw [e1]
              simp only [List.map_append]
              rfl
            have d10' : Dp K H19 v10 (dRw (r.take kN ++ [(br.1, ss, tN)] ++ r.drop (kN + 1))) := by
              show Dp K H19 v10 (.tuple ((r.take kN ++ [(br.1, ss, tN)] ++ r.drop (kN + 1)).map dBr))
              rw [List.map_append, List.map_append, List.map_take, List.map_drop]
              exact d10
            have kL := keepT_nt (o := .lst (zs.set sN v10)) (nt_lst _) hL19
            have zl := dpA_len hzs14
            rw [List.length_map] at zl
            refine ⟨_, rfl, _, rfl, L, zs, _, sN, rfl, rfl, hL19, Evl.ixN_nat (by omega), some (.int (sN : Int)), some (.int (kN : Int)), some (.ref pn), zs.set sN v10, C.set sN (r.take kN ++ [(br.1, ss, tN)] ++ r.drop (kN + 1)), rfl, goU L0' d ((g10'.trans gn).trans (Go.same gn.1 s1419)), upd_same, ?_, by rw [List.length_set]; exact okC.len, fun r2 hr2 => ?_⟩
            · rw [List.map_set]
              exact dpA_keep kL _ _ (by rw [← List.map_set]; exact noLs_rw _) (dpA_set sN (dpA_same s1419 _ _ hzs14) d10')
            · rcases List.mem_or_eq_of_mem_set hr2 with h | h
              · exact okC.row r2 h
              · rw [h]
                refine ⟨by simp only [List.length_append]; show 0 < _ + 1 + _; omega, ?_, fun z hz => ?_, by rw [er']; exact okr.cm⟩
                · have := congrArg List.length er'
                  rw [List.length_map, List.length_map] at this
                  omega
                · rcases List.mem_append.mp hz with h | h
                  · rcases List.mem_append.mp h with h | h
                    · exact okr.to z (List.mem_of_mem_take h)
                    · rw [List.mem_singleton.mp h]
                      exact ⟨by show tN < c.toNat; omega, hsl⟩
                  · exact okr.to z (List.mem_of_mem_drop h)
          · rintro σ' H8 ⟨y6, y7, y8, zs, C, rfl, g8, hL8, hzs8, okC⟩
            refine ⟨_, rfl, _, rfl, L, zs, rfl, .inl ⟨SqL.of hL8, fun pq hpq => ⟨by show 3 ≤ sizeLine; decide, fun pw hpw => ?_⟩⟩⟩
            have gq := Go.new (o := .tup zs) g8.1 hpq
            have gw := gq.trans (Go.new (o := .tup [.str "chain", .int b, .ref pq]) gq.1 hpw)
            have hpq2 := same_new (o := .tup [.str "chain", .int b, .ref pq]) hpw _ _ (upd_same (H := H8) (a := pq) (o := .tup zs))
            refine q _ _ b C (g8.trans gw) (.tup (SqT.of upd_same) (.cons (.str _) (.cons (.int _) (.cons (.tup (SqT.of hpq2) (dpA_keep (Go.keepT g8.1 gw) _ _ (noLs_rw C) hzs8)) .nil)))) ⟨b2, b6, by rw [okC.len]; omega, by rw [okC.len]; omega, fun r hr => ?_⟩
            rw [okC.len]
            exact okC.row r hr
end
end Mt
namespace Mt
open PySem PySem.Spec PyProof.Rows L2
/-! ### ranks: in how many ticks a state is sure -/
def ga (l : List Nat) (i : Nat) : Nat := (l[i]?).getD 0
def tgs (N : List (List Nat)) (s : Nat) : List Nat := (N[s]?).getD []
def rdy (N : List (List Nat)) (g : List Nat) (s : Nat) : Bool := decide (ga g s = 0) && (tgs N s).all fun t => decide (0 < ga g t)
def fnd (N : List (List Nat)) : Nat → List Nat
  | 0 => (List.range N.length).map fun _ => 0
  | k + 1 => (List.range N.length).map fun s => if rdy N (fnd N k) s = true then k + 1 else ga (fnd N k) s
def frs (N : List (List Nat)) (k : Nat) : List Nat := (List.range N.length).filter (rdy N (fnd N k))
theorem fnd_len (N : List (List Nat)) (k : Nat) : (fnd N k).length = N.length := by
  cases k <;> (unfold fnd; rw [List.length_map, List.length_range])
theorem ga_range {n s : Nat} {f : Nat → Nat} (h : s < n) : ga ((List.range n).map f) s = f s := by
  unfold ga
  rw [List.getElem?_map, List.getElem?_range h]
  rfl
theorem fnd_0 {N : List (List Nat)} {s : Nat} : ga (fnd N 0) s = 0 := by
  unfold ga fnd
  rw [List.getElem?_map]
  cases (List.range N.length)[s]? <;> rfl
theorem fnd_s {N : List (List Nat)} {k s : Nat} (h : s < N.length) : ga (fnd N (k + 1)) s = if rdy N (fnd N k) s = true then k + 1 else ga (fnd N k) s := ga_range h
theorem fnd_out {N : List (List Nat)} {k s : Nat} (h : N.length ≤ s) : ga (fnd N k) s = 0 := by
  unfold ga
  rw [List.getElem?_eq_none (by rw [fnd_len]; exact h)]
  rfl
theorem rdy_iff {N : List (List Nat)} {g : List Nat} {s : Nat} : rdy N g s = true ↔ ga g s = 0 ∧ ∀ t ∈ tgs N s, 0 < ga g t := by
  unfold rdy
  rw [Bool.and_eq_true, decide_eq_true_iff, List.all_eq_true]
  constructor
  · exact fun h => ⟨h.1, fun t ht => of_decide_eq_true (h.2 t ht)⟩
  · exact fun h => ⟨h.1, fun t ht => decide_eq_true (h.2 t ht)⟩
/-- what is set stays -/
theorem fnd_keep {N : List (List Nat)} {k s : Nat} (h : 0 < ga (fnd N k) s) : ga (fnd N (k + 1)) s = ga (fnd N k) s := by
  by_cases hs : s < N.length
  · rw [fnd_s hs, if_neg fun r => by have := (rdy_iff.mp r).1; omega]
  · rw [fnd_out (by omega)] at h
    omega
theorem fnd_val {N : List (List Nat)} : ∀ (k s : Nat), 0 < ga (fnd N k) s → ga (fnd N k) s ≤ k ∧ ∀ t ∈ tgs N s, 0 < ga (fnd N k) t ∧ ga (fnd N k) t < ga (fnd N k) s
  | 0, s, h => by
    rw [fnd_0] at h
    omega
  | k + 1, s, h => by
    by_cases hs : s < N.length
    · by_cases r : rdy N (fnd N k) s = true
      · have e : ga (fnd N (k + 1)) s = k + 1 := by rw [fnd_s hs, if_pos r]
        rw [e]
        refine ⟨Nat.le_refl _, fun t ht => ?_⟩
        have h0 := (rdy_iff.mp r).2 t ht
        rw [fnd_keep h0]
        have := (fnd_val k t h0).1
        exact ⟨h0, by omega⟩
      · have e : ga (fnd N (k + 1)) s = ga (fnd N k) s := by rw [fnd_s hs, if_neg r]
        rw [e] at h ⊢
        obtain ⟨h1, h2⟩ := fnd_val k s h
        refine ⟨by omega, fun t ht => ?_⟩
        rw [fnd_keep (h2 t ht).1]
        exact h2 t ht
    · rw [fnd_out (by omega)] at h
      omega
theorem ga_ext {N : List (List Nat)} {j k : Nat} (h : ∀ s, s < N.length → ga (fnd N j) s = ga (fnd N k) s) : fnd N j = fnd N k := by
  apply List.ext_getElem?
  intro s
  by_cases hs : s < N.length
  · have := h s hs
    unfold ga at this
    rw [List.getElem?_eq_getElem (by rw [fnd_len]; exact hs), List.getElem?_eq_getElem (by rw [fnd_len]; exact hs)] at this ⊢
    exact congrArg some this
  · rw [List.getElem?_eq_none (by rw [fnd_len]; omega), List.getElem?_eq_none (by rw [fnd_len]; omega)]
theorem frs_none {N : List (List Nat)} {k : Nat} (h : frs N k = []) : fnd N (k + 1) = fnd N k := ga_ext fun s hs => by
  have : ¬ rdy N (fnd N k) s = true := fun r => by
    have : s ∈ frs N k := List.mem_filter.mpr ⟨List.mem_range.mpr hs, r⟩
    rw [h] at this
    exact absurd this List.not_mem_nil
  rw [fnd_s hs, if_neg this]
theorem stable {N : List (List Nat)} {k : Nat} (h : frs N k = []) : ∀ j, fnd N (k + j) = fnd N k ∧ frs N (k + j) = []
  | 0 => ⟨rfl, h⟩
  | j + 1 => by
    obtain ⟨h1, h2⟩ := stable h j
    have e := frs_none h2
    rw [h1] at e
    refine ⟨e, ?_⟩
    show (List.range N.length).filter (rdy N (fnd N (k + j + 1))) = []
    rw [e]
    exact h
def nz (l : List Nat) : Nat := (l.filter fun x => decide (0 < x)).length
theorem nz_le (l : List Nat) : nz l ≤ l.length := List.length_filter_le _ _
theorem nz_range (n : Nat) (f : Nat → Nat) : nz ((List.range n).map f) = ((List.range n).filter fun s => decide (0 < f s)).length := by
  unfold nz
  rw [List.filter_map, List.length_map]
  rfl
theorem filter_lt {α : Type} : ∀ {l : List α} {p q : α → Bool}, (∀ x ∈ l, p x = true → q x = true) → (∃ x ∈ l, p x = false ∧ q x = true) → (l.filter p).length < (l.filter q).length
  | [], _, _, _, h => by
    obtain ⟨x, hx, _⟩ := h
    exact absurd hx List.not_mem_nil
  | a :: r, p, q, h1, h2 => by
    have hle : (r.filter p).length ≤ (r.filter q).length := by
      have : ∀ l : List α, (∀ x ∈ l, p x = true → q x = true) → (l.filter p).length ≤ (l.filter q).length := fun l => by
        induction l with
        | nil => exact fun _ => Nat.le_refl _
        | cons b t ih =>
          intro hb
          have ih := ih fun x hx => hb x (List.mem_cons_of_mem _ hx)
          cases hp : p b with
          | true =>
            rw [List.filter_cons_of_pos hp, List.filter_cons_of_pos (hb b List.mem_cons_self hp), List.length_cons, List.length_cons]
            omega
          | false =>
            rw [List.filter_cons_of_neg (by simp [hp])]
            cases hq : q b with
            | true =>
              rw [List.filter_cons_of_pos hq, List.length_cons]
              omega
            | false =>
              rw [List.filter_cons_of_neg (by simp [hq])]
              exact ih
      exact this r fun x hx => h1 x (List.mem_cons_of_mem _ hx)
    cases hp : p a with
    | true =>
      rw [List.filter_cons_of_pos hp, List.filter_cons_of_pos (h1 a List.mem_cons_self hp), List.length_cons, List.length_cons]
      obtain ⟨x, hx, k1, k2⟩ := h2
      rcases List.mem_cons.mp hx with rfl | hx
      · rw [hp] at k1
        cases k1
      · have := filter_lt (l := r) (p := p) (q := q) (fun x hx => h1 x (List.mem_cons_of_mem _ hx)) ⟨x, hx, k1, k2⟩
        omega
    | false =>
      rw [List.filter_cons_of_neg (by simp [hp])]
      cases hq : q a with
      | true =>
        rw [List.filter_cons_of_pos hq, List.length_cons]
        omega
      | false =>
        rw [List.filter_cons_of_neg (by simp [hq])]
        obtain ⟨x, hx, k1, k2⟩ := h2
        rcases List.mem_cons.mp hx with rfl | hx
        · rw [hq] at k2
          cases k2
        · exact filter_lt (fun x hx => h1 x (List.mem_cons_of_mem _ hx)) ⟨x, hx, k1, k2⟩
theorem fnd_as (N : List (List Nat)) (k : Nat) : fnd N k = (List.range N.length).map fun s => ga (fnd N k) s := by
  apply List.ext_getElem?
  intro s
  rw [List.getElem?_map]
  by_cases hs : s < N.length
  · rw [List.getElem?_range hs, List.getElem?_eq_getElem (by rw [fnd_len]; exact hs)]
    show some _ = some (ga (fnd N k) s)
    unfold ga
    rw [List.getElem?_eq_getElem (by rw [fnd_len]; exact hs)]
    rfl
  · rw [List.getElem?_eq_none (by rw [fnd_len]; omega), List.getElem?_eq_none (by rw [List.length_range]; omega)]
    rfl
theorem nz_up {N : List (List Nat)} {k : Nat} (h : frs N k ≠ []) : nz (fnd N k) < nz (fnd N (k + 1)) := by
  rw [fnd_as N k, fnd_as N (k + 1), nz_range, nz_range]
  refine filter_lt (fun s _ hs => ?_) ?_
  · have := of_decide_eq_true hs
    rw [fnd_keep this]
    exact hs
  · obtain ⟨s, hs⟩ := List.exists_mem_of_ne_nil _ h
    obtain ⟨h1, h2⟩ := List.mem_filter.mp hs
    refine ⟨s, h1, decide_eq_false ?_, decide_eq_true ?_⟩
    · have := (rdy_iff.mp h2).1
      omega
    · rw [fnd_s (List.mem_range.mp h1), if_pos h2]
      omega
theorem nz_grow {N : List (List Nat)} : ∀ k, (∀ j, j < k → frs N j ≠ []) → k ≤ nz (fnd N k)
  | 0, _ => Nat.zero_le _
  | k + 1, h => by
    have h1 := nz_grow k fun j hj => h j (by omega)
    have h2 := nz_up (h k (by omega))
    omega
/-- as many rounds as there are states are enough -/
theorem frs_end (N : List (List Nat)) : frs N N.length = [] := by
  cases e : frs N N.length with
  | nil => rfl
  | cons a r =>
    exfalso
    have h : ∀ j, j < N.length + 1 → frs N j ≠ [] := fun j hj k => by
      have := (stable k (N.length - j)).2
      rw [show j + (N.length - j) = N.length by omega, e] at this
      cases this
    have h1 := nz_grow (N.length + 1) h
    have h2 := nz_le (fnd N (N.length + 1))
    rw [fnd_len] at h2
    omega
theorem fnd_end {N : List (List Nat)} {k : Nat} (h : frs N k = []) : fnd N k = fnd N N.length := by
  rcases Nat.le_total k N.length with h1 | h1
  · rw [← (stable h (N.length - k)).1, show k + (N.length - k) = N.length by omega]
  · rw [← (stable (frs_end N) (k - N.length)).1, show N.length + (k - N.length) = k by omega]
def rk (N : List (List Nat)) : List Nat := fnd N N.length
theorem rk_sure {N : List (List Nat)} {s : Nat} (h : 0 < ga (rk N) s) : ∀ t ∈ tgs N s, 0 < ga (rk N) t ∧ ga (rk N) t < ga (rk N) s := (fnd_val _ s h).2
theorem rk_on {N : List (List Nat)} {s : Nat} (hs : s < N.length) (h : ga (rk N) s = 0) : ∃ t ∈ tgs N s, ga (rk N) t = 0 := by
  by_cases k : ∃ t ∈ tgs N s, ga (rk N) t = 0
  · exact k
  · exfalso
    have : rdy N (rk N) s = true := rdy_iff.mpr ⟨h, fun t ht => Nat.pos_of_ne_zero fun e => k ⟨t, ht, e⟩⟩
    have : s ∈ frs N N.length := List.mem_filter.mpr ⟨List.mem_range.mpr hs, this⟩
    rw [frs_end] at this
    exact absurd this List.not_mem_nil
/-- the law's way: alive as long as the rank is 0 -/
theorem alive_step {N : List (List Nat)} {k s : Nat} (hs : s < N.length) : decide (ga (fnd N (k + 1)) s = 0) = (tgs N s).any fun t => decide (ga (fnd N k) t = 0) := by
  rw [Bool.eq_iff_iff, decide_eq_true_iff, List.any_eq_true, fnd_s hs]
  constructor
  · intro h
    by_cases r : rdy N (fnd N k) s = true
    · rw [if_pos r] at h
      omega
    · rw [if_neg r] at h
      by_cases e : ∃ t ∈ tgs N s, ga (fnd N k) t = 0
      · obtain ⟨t, h1, h2⟩ := e
        exact ⟨t, h1, decide_eq_true h2⟩
      · exact absurd (rdy_iff.mpr ⟨h, fun t ht => Nat.pos_of_ne_zero fun z => e ⟨t, ht, z⟩⟩) r
  · rintro ⟨t, h1, h2⟩
    have h2 := of_decide_eq_true h2
    have r : ¬ rdy N (fnd N k) s = true := fun r => by
      have := (rdy_iff.mp r).2 t h1
      omega
    rw [if_neg r]
    by_cases e : 0 < ga (fnd N k) s
    · have := ((fnd_val k s e).2 t h1).1
      omega
    · omega
end Mt
namespace Mt
open PySem PySem.Spec PyProof.Rows L2
theorem allK {X : Cx} {K : PySem.W.Frag} (hc : X.calm = true) (h : X.K = K) : CallR X (.builtin "all") (rAll K) := h ▸ cr_all hc
theorem ixLK {X : Cx} {K : PySem.W.Frag} (h : X.K = K) : IxR X (rIxL K) := h ▸ ix_list
abbrev cs_lo : Scope := { kind := .function, names := [(Str.ofString ".0", .local), (Str.ofString "state", .local), (Str.ofString "targets", .local), (Str.ofString "all", .globalImplicit), (Str.ofString "found", .cell)], isGenerator := false, isCoroutine := false }
def dTg (l : List Nat) : PyData := .list (l.map fun t : Nat => .int (t : Int))
def dNx (N : List (List Nat)) : PyData := .list (N.map dTg)
structure NxOk (N : List (List Nat)) : Prop where
  few : N.length ≤ 100
  row : ∀ l ∈ N, l.length ≤ 100 ∧ ∀ t ∈ l, t < N.length
def spLong (K : PySem.W.Frag) : Sp := fun vs H Q _ => ∃ (v : V) (N : List (List Nat)), vs = [v] ∧ Dp K H v (dNx N) ∧ NxOk N ∧ ∀ (H' : Hp) (F : Addr), Same H H' → H F = none → H' F = some (.lst ((rk N).map vN)) → Q (.ref F) H'
theorem dp_nats {K : PySem.W.Frag} {H : Hp} : ∀ {l : List Nat} {xs : List V}, DpAll K H xs (l.map fun t : Nat => .int (t : Int)) → xs = l.map vN
  | [], _, h => dpA_nil h
  | s :: r, _, h => by
    obtain ⟨x, t, rfl, h1, h2⟩ := dpA_cons h
    rw [dp_int h1, dp_nats h2]
    rfl
theorem vN_at {l : List Nat} {i : Nat} (h : i < l.length) : atI (l.map vN) (i : Int) = some (vN (ga l i)) := atI_nat (by
  rw [List.getElem?_map, List.getElem?_eq_getElem h]
  unfold ga
  rw [List.getElem?_eq_getElem h]
  rfl)
theorem zeros {α : Type} (xs : List α) (n : Nat) (h : xs.length = n) : xs.map (fun _ => V.int 0) = ((List.range n).map fun _ => 0).map vN := by
  rw [List.map_const', h, List.map_const', List.length_range, List.map_replicate]
  rfl
/-- the round's states get their rank -/
def setN (l : List Nat) (ss : List Nat) (v : Nat) : List Nat := ss.foldl (fun l s => l.set s v) l
theorem setN_len : ∀ (ss : List Nat) (l : List Nat) (v : Nat), (setN l ss v).length = l.length
  | [], _, _ => rfl
  | s :: r, l, v => by
    show (setN (l.set s v) r v).length = l.length
    rw [setN_len r, List.length_set]
theorem ga_set {l : List Nat} {s i v : Nat} (h : i < l.length) : ga (l.set s v) i = if s = i then v else ga l i := by
  unfold ga
  rw [List.getElem?_set]
  by_cases e : s = i
  · subst e
    rw [if_pos rfl, if_pos rfl, if_pos h]
    rfl
  · rw [if_neg e, if_neg e]
theorem ga_setN : ∀ (ss : List Nat) (l : List Nat) (v i : Nat), i < l.length → ga (setN l ss v) i = if i ∈ ss then v else ga l i
  | [], _, _, _, _ => by simp [setN]
  | s :: r, l, v, i, h => by
    show ga (setN (l.set s v) r v) i = _
    rw [ga_setN r _ v i (by rw [List.length_set]; exact h), ga_set h]
    by_cases e : i ∈ r
    · rw [if_pos e, if_pos (List.mem_cons_of_mem _ e)]
    · rw [if_neg e]
      by_cases k : s = i
      · rw [if_pos k, if_pos (by rw [k]; exact List.mem_cons_self)]
      · rw [if_neg k, if_neg fun q => by
          rcases List.mem_cons.mp q with z | z
          · exact k z.symm
          · exact e z]
theorem setN_end (N : List (List Nat)) (k : Nat) : setN (fnd N k) (frs N k) (k + 1) = fnd N (k + 1) := by
  apply List.ext_getElem?
  intro s
  by_cases hs : s < N.length
  · have h1 := ga_setN (frs N k) (fnd N k) (k + 1) s (by rw [fnd_len]; exact hs)
    have h2 : ga (fnd N (k + 1)) s = if s ∈ frs N k then k + 1 else ga (fnd N k) s := by
      rw [fnd_s hs]
      by_cases r : rdy N (fnd N k) s = true
      · rw [if_pos r, if_pos (show s ∈ frs N k from List.mem_filter.mpr ⟨List.mem_range.mpr hs, r⟩)]
      · rw [if_neg r, if_neg (show ¬ s ∈ frs N k from fun q => r (List.mem_filter.mp q).2)]
    rw [← h2] at h1
    unfold ga at h1
    rw [List.getElem?_eq_getElem (by rw [setN_len, fnd_len]; exact hs), List.getElem?_eq_getElem (by rw [fnd_len]; exact hs)] at h1 ⊢
    exact congrArg some h1
  · rw [List.getElem?_eq_none (by rw [setN_len, fnd_len]; omega), List.getElem?_eq_none (by rw [fnd_len]; omega)]
theorem setN_take {l ss : List Nat} {v j s : Nat} (h : ss[j]? = some s) : setN l (ss.take (j + 1)) v = (setN l (ss.take j) v).set s v := by
  rw [take_snoc h]
  unfold setN
  rw [List.foldl_append]
  rfl
section
variable {P : Program} {w : World} {K : PySem.W.Frag} {mg : Str → Option Value} {base : Heap}
theorem ok_longest (T : Txt K mg) {f : Addr} {fd : FuncData} (F : FnP K "longest" s_longest f fd) : FnOk P w K mg base CX0 1 f fd ["nexts"] (spLong K) := by
  refine F.ok sc_longest (fun vs H Q E h => ?_) (fun cdv A outer s H vs Q E hr h => ?_)
  · obtain ⟨v, N, rfl, _⟩ := h
    rfl
  · obtain ⟨v, N, rfl, hN, ok, q⟩ := h
    refine ⟨_, PSs.nox (pss_cons (ps_set (i := 1) sc_longest.nd rfl (Or.inr rfl) (pe_lc (own := [("_", 2)]) (g := (gName 2)) (tt := tYes) rfl sc_longest.nd (pi_list (pv 0)) (blkOk_by (N := N_longest) (sc := defScope s_longest) (by decide +kernel)) (fun _ _ _ _ _ => (pg_name (i := 2) sc_longest.nd rfl (Or.inl rfl))) (fun _ _ _ _ _ => pts_nil) (fun _ _ _ _ _ => pe_int)))
      (pss_cons (ps_set (i := 3) sc_longest.nd rfl (Or.inl rfl) pe_int)
      (pss_cons (ps_set (i := 4) sc_longest.nd rfl (Or.inl rfl) (pe_listRg rfl rfl T.b_list (prg_1 rfl T.b_range (pe_callB call_len (by rfl) T.b_len (by decide +kernel) (pa_cons (pv 0) pa_nil)))))
      (pss_cons (ps_while PassesOwn.never (pt_truth (pv 4) (by intro _; rfl)) (pss_cons (ps_aug (i := 3) sc_longest.nd rfl (Or.inl rfl) pe_int ip_add)
      (pss_cons (ps_setLc (i := 4) (own := [("state", 5), ("targets", 6)]) (g := (gTup K 2 (gCons (gName 5) (gCons (gName 6) gNil)))) rfl sc_longest.nd rfl rfl (sw_true rfl rfl rfl (by decide +kernel)) (pi_enum (by rfl) T.b_enumerate (pa_cons (pv 0) pa_nil)) (blkOk_by (N := N_longest) (sc := defScope s_longest) (by decide +kernel)) (fun _ _ _ _ _ => (pg_tup rfl (pgs_cons (pg_name (i := 5) sc_longest.nd rfl (Or.inl rfl)) (pgs_cons (pg_name (i := 6) sc_longest.nd rfl (Or.inl rfl)) pgs_nil)))) (fun _ _ _ _ _ => (pts_one (PW.pt (pw_and (pt_cmpR op_eq (pe_ix (ixL (K := K) rfl) (pv 1) (pv 5) (fun _ _ => rfl)) pe_int (nomark _)) (pw_and1 (pt_val (pe_callB (allK (K := K) rfl rfl) (by rfl) T.b_all (by decide +kernel) (pa_cons (pe_lc (own := [("target", 7)]) (g := (gName 7)) (tt := tYes) rfl sc_longest.nd (piLK (K := K) rfl (pv 6)) (blkOk_by (N := N_longest) (sc := cs_lo) (by decide +kernel)) (fun _ _ _ _ _ => (pg_name (i := 7) sc_longest.nd rfl (Or.inl rfl))) (fun _ _ _ _ _ => pts_nil) (fun _ _ _ _ _ => (pe_cmpR op_gt (pe_ix (ixL (K := K) rfl) (pv 1) (pv 7) (fun _ _ => rfl)) pe_int (nomark _)))) pa_nil)))))))) (fun _ _ _ _ _ => (pv 5)))
      (pss_one (ps_for PassesOwn.never rfl (pi_list (pv 4)) (pg_name (i := 5) sc_longest.nd rfl (Or.inl rfl)) (pss_one (ps_asg (pv 3) (pg_sub (pv 1) (pv 5) set_list))))))))
      (pss_one (ps_ret (pv 1))))))), ?_⟩
    obtain ⟨pN, xs, rfl, hpN, hA⟩ := dp_lst hN
    have xl := dpA_len hA
    rw [List.length_map] at xl
    have few := ok.few
    refine ⟨_, rfl, pN, rfl, ⟨_, hpN⟩, fun F0 hF => lc_list (K := K) (a := pN) (xs := xs) (fun i H' => Same H H' ∧ H' F0 = some (.lst ((xs.take i).map fun _ => .int 0))) ⟨same_new hF, upd_same⟩ (fun i H' _ e => same_l e.1 hpN) ?_ ?_⟩
    · rintro i x H2 hi ⟨s2, h2⟩
      refine ⟨rfl, _, h2, ?_, same_mut s2 hF, ?_⟩
      · rw [List.length_map, List.length_take]
        exact line6 (by omega)
      · rw [upd_same, take_map_succ (f := fun _ => V.int 0) hi]
    · rintro H2 ⟨s2, h2⟩
      rw [List.take_length, zeros xs _ xl] at h2
      refine ⟨_, rfl, _, _, rfl, .inl ⟨_, same_l s2 hpN, rfl⟩, _, rfl, RgOk.of_le (by decide) (by omega) (by decide) (by omega), fun q0 hq0 => ?_⟩
      have s3 := s2.trans (same_new (o := .lst (rgV 0 (xs.length : Int))) hq0)
      have hq01 := upd_same (H := H2) (a := q0) (o := .lst (rgV 0 (xs.length : Int)))
      have hF3 := same_new (o := .lst (rgV 0 (xs.length : Int))) hq0 _ _ h2
      generalize upd H2 q0 (.lst (rgV 0 (xs.length : Int))) = H3 at s3 hq01 hF3
      refine ⟨fun m σ H' => ∃ (k : Nat) (Lf : Addr) (fr : List V) (y5 : Option V), m = 2 * (N.length - nz (fnd N k)) + (if fr = [] then 0 else 1) ∧ σ = [some (.ref pN), some (.ref F0), none, some (.int (k : Int)), some (.ref Lf), y5, none, none] ∧ Same H H' ∧ H' F0 = some (.lst ((fnd N k).map vN)) ∧ H' Lf = some (.lst fr) ∧ fr.length ≤ 100 ∧ (fr = [] → fnd N k = rk N), ⟨_, 0, q0, _, _, rfl, rfl, s3, hF3, hq01, ?_, ?_⟩, ?_⟩
      · rw [rgV_length]
        omega
      · intro e
        have : (rgV 0 (xs.length : Int)).length = 0 := by rw [e]; rfl
        rw [rgV_length] at this
        have h0 : N.length = 0 := by omega
        show fnd N 0 = fnd N N.length
        rw [h0]
      · rintro m σ H4 ⟨k, Lf, fr, y5, rfl, rfl, s4, hF4, hLf4, frl, fin⟩
        refine ⟨_, rfl, _, .inl ⟨fr, SqL.of hLf4, rfl⟩, ?_⟩
        cases hfr : fr with
        | nil =>
          rw [fin hfr] at hF4
          exact ⟨_, rfl, q _ F0 s4 hF hF4⟩
        | cons z zr =>
          refine ite2 (fun _ => ?_) (fun h => absurd rfl h)
          refine ⟨fun σ' H' => ∃ (Lf : Addr) (fr : List V) (y5 : Option V), 2 * (N.length - nz (fnd N (k + 1))) + (if fr = [] then 0 else 1) < 2 * (N.length - nz (fnd N k)) + (if z :: zr = [] then 0 else 1) ∧ σ' = [some (.ref pN), some (.ref F0), none, some (.int ((k + 1 : Nat) : Int)), some (.ref Lf), y5, none, none] ∧ Same H H' ∧ H' F0 = some (.lst ((fnd N (k + 1)).map vN)) ∧ H' Lf = some (.lst fr) ∧ fr.length ≤ 100 ∧ (fr = [] → fnd N (k + 1) = rk N), fun σ' H' ⟨Lf, fr, y5, lt, e, r⟩ => ⟨_, lt, k + 1, Lf, fr, y5, rfl, e, r⟩, ?_⟩
          refine ⟨_, rfl, _, _, rfl, rfl, _, rfl, pN, xs, rfl, same_l s4 hpN, fun M hM => lc_it walk_enum (fun j H' => Same H4 H' ∧ H' M = some (.lst (((List.range j).filter (rdy N (fnd N k))).map vN))) ⟨same_new hM, upd_same⟩ (fun j H' _ e => same_l (s4.trans e.1) hpN) ?_ ?_⟩
          · rintro j x H5 H5' hj ⟨s5, hM5⟩ ⟨T', a, b, rfl, hT, rfl, ha, hb⟩
            obtain rfl := Option.some.inj ha
            obtain ⟨l, hl, hx⟩ := dpA_mem hA hb
            obtain ⟨pt, ts, rfl, hpt, hts⟩ := dp_lst hx
            obtain rfl := dp_nats hts
            have hj' : j < N.length := by omega
            have et : tgs N j = l := by
              unfold tgs
              rw [hl]
              rfl
            obtain ⟨ll, lt⟩ := ok.row l (List.mem_of_getElem? hl)
            have s6 := s5.trans (same_new (o := .tup [V.int (j : Int), .ref pt]) hT)
            have hM6 := same_new (o := .tup [V.int (j : Int), .ref pt]) hT _ _ hM5
            have hT6 := upd_same (H := H5) (a := T') (o := .tup [V.int (j : Int), .ref pt])
            generalize upd H5 T' (.tup [V.int (j : Int), .ref pt]) = H6 at s6 hM6 hT6
            have hF6 := s6 _ _ hF4
            refine ⟨T', _, rfl, SqT.of hT6, rfl, _, _, rfl, _, _, rfl, rfl, rfl, ?_⟩
            refine ⟨_, rfl, _, rfl, F0, _, _, _, rfl, rfl, SqL.of hF6, vN_at (by rw [fnd_len]; exact hj'), rfl, _, rfl, ?_⟩
            have no : rdy N (fnd N k) j = false → Same H4 H6 ∧ H6 M = some (.lst (((List.range (j + 1)).filter (rdy N (fnd N k))).map vN)) := fun h => by
              refine ⟨s6, ?_⟩
              rw [List.range_succ, List.filter_append, List.filter_cons_of_neg (by simp [h]), List.filter_nil, List.append_nil]
              exact hM6
            refine ite2 (fun h0 => ?_) (fun hne => ?_)
            · have g0 : ga (fnd N k) j = 0 := by
                have : V.int ((ga (fnd N k) j : Nat) : Int) = V.int 0 := of_decide_eq_true h0
                have := V.int.inj this
                omega
              refine ⟨_, rfl, pt, rfl, ⟨_, same_l (s4.trans s6) hpt⟩, fun M2 hM2 => lc_list (K := K) (a := pt) (xs := l.map vN) (fun i H' => Same H6 H' ∧ H' M2 = some (.lst ((l.take i).map fun t => V.bl (decide ((0 : Int) < ((ga (fnd N k) t : Nat) : Int)))))) ⟨same_new hM2, upd_same⟩ (fun i H' _ e => same_l ((s4.trans s6).trans e.1) hpt) ?_ ?_⟩
              · rintro i y H7 hi ⟨s7, hM27⟩
                rw [List.getElem?_map] at hi
                obtain ⟨t, ht, rfl⟩ := Option.map_eq_some_iff.mp hi
                have il := (List.getElem?_eq_some_iff.mp ht).1
                refine ⟨rfl, _, rfl, _, rfl, F0, _, _, _, rfl, rfl, SqL.of (s7 _ _ hF6), vN_at (by rw [fnd_len]; exact lt t (List.mem_of_getElem? ht)), _, _, rfl, rfl, _, hM27, ?_, same_mut s7 hM2, ?_⟩
                · rw [List.length_map, List.length_take]
                  exact line6 (by omega)
                · rw [upd_same, take_map_succ (f := fun t => V.bl (decide ((0 : Int) < ((ga (fnd N k) t : Nat) : Int)))) ht]
              · rintro H7 ⟨s7, hM27⟩
                rw [List.length_map, List.take_length] at hM27
                have er : rdy N (fnd N k) j = (l.map fun t => decide ((0 : Int) < ((ga (fnd N k) t : Nat) : Int))).all id := by
                  rw [Bool.eq_iff_iff, rdy_iff, List.all_map, List.all_eq_true, et]
                  constructor
                  · intro h t ht
                    exact decide_eq_true (by have := h.2 t ht; omega)
                  · intro h
                    refine ⟨g0, fun t ht => ?_⟩
                    have := of_decide_eq_true (h t ht)
                    omega
                refine ⟨M2, l.map fun t => decide ((0 : Int) < ((ga (fnd N k) t : Nat) : Int)), rfl, SqL.of (by rw [List.map_map]; exact hM27), _, rfl, ?_⟩
                rw [← er]
                have s67 := s6.trans s7
                cases hrd : rdy N (fnd N k) j with
                | true =>
                  refine ⟨_, rfl, _, s7 _ _ hM6, ?_, same_mut s67 hM, ?_⟩
                  · rw [List.length_map]
                    have := List.length_filter_le (rdy N (fnd N k)) (List.range j)
                    rw [List.length_range] at this
                    exact line6 (by omega)
                  · rw [upd_same, List.range_succ, List.filter_append, List.filter_cons_of_pos hrd, List.filter_nil, List.map_append]
                    rfl
                | false =>
                  obtain ⟨_, h2⟩ := no hrd
                  exact ⟨s67, s7 _ _ h2⟩
            · refine no ?_
              cases hrd : rdy N (fnd N k) j with
              | false => rfl
              | true =>
                have := (rdy_iff.mp hrd).1
                exact absurd (by show decide (V.int ((ga (fnd N k) j : Nat) : Int) = V.int 0) = true; rw [this]; exact decide_eq_true rfl) hne
          · rintro H5 ⟨s5, hM5⟩
            rw [xl] at hM5
            have hM5' : H5 M = some (.lst ((frs N k).map vN)) := hM5
            have frl' : (frs N k).length ≤ N.length := by
              have := List.length_filter_le (rdy N (fnd N k)) (List.range N.length)
              rw [List.length_range] at this
              exact this
            have MF : M ≠ F0 := (ne_of_none hF4 hM).symm
            refine ⟨_, rfl, M, rfl, ⟨_, SqL.of hM5'⟩, for_list (K := K) (a := M) (xs := (frs N k).map vN) (fun j σ H' => ∃ y5 : Option V, σ = [some (.ref pN), some (.ref F0), none, some (.int ((k + 1 : Nat) : Int)), some (.ref M), y5, none, none] ∧ Same H H' ∧ H' M = some (.lst ((frs N k).map vN)) ∧ H' F0 = some (.lst ((setN (fnd N k) ((frs N k).take j) (k + 1)).map vN))) ⟨_, rfl, s4.trans s5, hM5', s5 _ _ hF4⟩ (fun j σ H' _ ⟨_, _, _, h, _⟩ => SqL.of h) ?_ ?_⟩
            · rintro j x σ H6 hj ⟨y5, rfl, s6, hM6, hF6⟩
              rw [List.getElem?_map] at hj
              obtain ⟨s, hs, rfl⟩ := Option.map_eq_some_iff.mp hj
              have sl : s < N.length := List.mem_range.mp (List.mem_filter.mp (List.mem_of_getElem? hs)).1
              refine ⟨_, rfl, _, rfl, _, rfl, F0, _, _, s, rfl, rfl, hF6, Evl.ixN_nat (by rw [List.length_map, setN_len, fnd_len]; exact sl), _, rfl, same_mut s6 hF, ?_, ?_⟩
              · rw [upd_ne MF]
                exact hM6
              · rw [upd_same, setN_take hs, List.map_set]
                rfl
            · rintro σ H6 ⟨y5, rfl, s6, hM6, hF6⟩
              rw [List.length_map, List.take_length, setN_end] at hF6
              refine ⟨M, (frs N k).map vN, _, ?_, rfl, s6, hF6, hM6, by rw [List.length_map]; omega, fun e => ?_⟩
              · have up : frs N k ≠ [] → nz (fnd N k) < nz (fnd N (k + 1)) := nz_up
                have le := nz_le (fnd N (k + 1))
                rw [fnd_len] at le
                cases hf : frs N k with
                | nil =>
                  rw [frs_none hf]
                  simp
                | cons s r =>
                  have := up (by rw [hf]; simp)
                  simp
                  omega
              · have e' : frs N k = [] := List.map_eq_nil_iff.mp e
                rw [frs_none e']
                exact fnd_end e'
end
end Mt
namespace Mt
open PySem PySem.Spec PyProof.Rows L2
theorem ninK {X : Cx} {K : PySem.W.Frag} (h : X.K = K) : OpR X (compareOp .NotIn) (rIn K true) := h ▸ op_notIn_seq
theorem inK {X : Cx} {K : PySem.W.Frag} (h : X.K = K) : OpR X (compareOp .In) (rIn K false) := h ▸ op_in_seq
theorem inV_str (z : Str) (ss : List Str) : inV (.str z) (ss.map V.str) = decide (z ∈ ss) := by
  unfold inV
  rw [List.any_map, Bool.eq_iff_iff, List.any_eq_true, decide_eq_true_iff]
  constructor
  · rintro ⟨s, hs, h⟩
    have h : (s == z) = true := h
    rw [← eq_of_beq h]
    exact hs
  · intro h
    exact ⟨z, h, (beq_self_eq_true z : (z == z) = true)⟩
theorem flat_strs (ss : List Str) : (ss.map V.str).all flatV = true := by
  rw [List.all_map]
  exact List.all_eq_true.mpr fun _ _ => rfl
/-- the branches that don't show z -/
def sl (z : Str) (r : List Br) : List Br := r.filter fun b => !decide (z ∈ b.2.1)
def nx (C : Chn) (z : Str) : List (List Nat) := C.map fun r => (sl z r).map (·.2.2)
def onp (z : Str) (g : List Nat) (b : Br) : Bool := !decide (z ∈ b.2.1) && decide (ga g b.2.2 = 0)
theorem tgs_nx {C : Chn} {z : Str} {s : Nat} : tgs (nx C z) s = (sl z (rowOf C s)).map (·.2.2) := by
  unfold tgs nx rowOf
  rw [List.getElem?_map]
  cases C[s]? <;> rfl
theorem on_any {C : Chn} {z : Str} {g : List Nat} {s : Nat} : ((tgs (nx C z) s).any fun t => decide (ga g t = 0)) = decide (0 < ((rowOf C s).filter (onp z g)).length) := by
  rw [tgs_nx, List.any_map, Bool.eq_iff_iff, List.any_eq_true, decide_eq_true_iff]
  constructor
  · rintro ⟨b, hb, h⟩
    obtain ⟨h1, h2⟩ := List.mem_filter.mp hb
    refine List.length_pos_iff.mpr (List.ne_nil_of_mem (a := b) (List.mem_filter.mpr ⟨h1, ?_⟩))
    unfold onp
    rw [Bool.and_eq_true]
    exact ⟨h2, h⟩
  · intro h
    obtain ⟨b, hb⟩ := List.exists_mem_of_ne_nil _ (List.length_pos_iff.mp h)
    obtain ⟨h1, h2⟩ := List.mem_filter.mp hb
    unfold onp at h2
    rw [Bool.and_eq_true] at h2
    exact ⟨b, List.mem_filter.mpr ⟨h1, h2.1⟩, h2.2⟩
theorem on_rdy {C : Chn} {z : Str} {g : List Nat} {s : Nat} : rdy (nx C z) g s = (decide (ga g s = 0) && decide (((rowOf C s).filter (onp z g)).length = 0)) := by
  have h := on_any (C := C) (z := z) (g := g) (s := s)
  rw [Bool.eq_iff_iff, rdy_iff, Bool.and_eq_true, decide_eq_true_iff, decide_eq_true_iff]
  constructor
  · rintro ⟨h1, h2⟩
    refine ⟨h1, ?_⟩
    by_cases e : ((rowOf C s).filter (onp z g)).length = 0
    · exact e
    · rw [decide_eq_true (show 0 < ((rowOf C s).filter (onp z g)).length by omega)] at h
      obtain ⟨t, ht, k⟩ := List.any_eq_true.mp h
      have := h2 t ht
      have := of_decide_eq_true k
      omega
  · rintro ⟨h1, h2⟩
    refine ⟨h1, fun t ht => Nat.pos_of_ne_zero fun e => ?_⟩
    have : ((tgs (nx C z) s).any fun t => decide (ga g t = 0)) = true := List.any_eq_true.mpr ⟨t, ht, decide_eq_true e⟩
    rw [h] at this
    have := of_decide_eq_true this
    omega
def spLLong (K : PySem.W.Frag) : Sp := fun vs H Q _ => ∃ (vc : V) (z : Str) (base : Int) (C : Chn), vs = [vc, .str z] ∧ Dp K H vc (dChn base C) ∧ ChnOk base C ∧ ∀ (H' : Hp) (p : Addr), Same H H' → H' p = some (.tup ((rk (nx C z)).map vN)) → Q (.ref p) H'
/-- the list of ranks while a round is under way -/
def mid (N : List (List Nat)) (i j : Nat) : List Nat := (List.range N.length).map fun s => if s < j then ga (fnd N (i + 1)) s else ga (fnd N i) s
theorem mid_0 (N : List (List Nat)) (i : Nat) : mid N i 0 = fnd N i := by
  unfold mid
  rw [fnd_as N i]
  refine List.map_congr_left fun s _ => ?_
  rw [if_neg (Nat.not_lt_zero s), ← fnd_as]
theorem mid_end (N : List (List Nat)) (i : Nat) : mid N i N.length = fnd N (i + 1) := by
  conv => rhs; rw [fnd_as N (i + 1)]
  unfold mid
  refine List.map_congr_left fun s hs => ?_
  rw [if_pos (List.mem_range.mp hs)]
theorem mid_same {N : List (List Nat)} {i j : Nat} (h : ga (fnd N (i + 1)) j = ga (fnd N i) j) : mid N i (j + 1) = mid N i j := by
  unfold mid
  refine List.map_congr_left fun s _ => ?_
  by_cases e : s = j
  · subst e
    rw [if_pos (Nat.lt_succ_self s), if_neg (Nat.lt_irrefl s), h]
  · by_cases k : s < j
    · rw [if_pos k, if_pos (by omega)]
    · rw [if_neg k, if_neg (by omega)]
theorem mid_set {N : List (List Nat)} {i j : Nat} : (mid N i j).set j (ga (fnd N (i + 1)) j) = mid N i (j + 1) := by
  apply List.ext_getElem?
  intro s
  rw [List.getElem?_set]
  unfold mid
  rw [List.length_map, List.length_range, List.getElem?_map, List.getElem?_map]
  by_cases e : j = s
  · subst e
    rw [if_pos rfl]
    by_cases k : j < N.length
    · rw [if_pos k, List.getElem?_range k]
      show _ = some (if j < j + 1 then ga (fnd N (i + 1)) j else _)
      rw [if_pos (Nat.lt_succ_self j)]
    · rw [if_neg k, List.getElem?_eq_none (by rw [List.length_range]; omega)]
      rfl
  · rw [if_neg e]
    by_cases k : s < N.length
    · rw [List.getElem?_range k]
      show some (if s < j then _ else _) = some (if s < j + 1 then _ else _)
      by_cases l : s < j
      · rw [if_pos l, if_pos (by omega)]
      · rw [if_neg l, if_neg (by omega)]
    · rw [List.getElem?_eq_none (by rw [List.length_range]; omega)]
      rfl
def alv (N : List (List Nat)) (i : Nat) : List V := (List.range N.length).map fun s => .bl (decide (ga (fnd N i) s = 0))
theorem alv_at {N : List (List Nat)} {i s : Nat} (h : s < N.length) : atI (alv N i) (s : Int) = some (.bl (decide (ga (fnd N i) s = 0))) := atI_nat (by
  unfold alv
  rw [List.getElem?_map, List.getElem?_range h]
  rfl)
theorem mid_len (N : List (List Nat)) (i j : Nat) : (mid N i j).length = N.length := by
  unfold mid
  rw [List.length_map, List.length_range]
theorem rep_list {α : Type} (x : α) (n : Nat) : (List.replicate n [x]).flatten = List.replicate n x := by
  induction n with
  | zero => rfl
  | succ n ih =>
    rw [List.replicate_succ, List.flatten_cons, ih]
    rfl
section
variable {P : Program} {w : World} {K : PySem.W.Frag} {mg : Str → Option Value} {base : Heap}
theorem ok__law_longest (T : Txt K mg) {f : Addr} {fd : FuncData} (F : FnP K "_law_longest" s__law_longest f fd) : FnOk P w K mg base CX0 1 f fd ["chain", "mark"] (spLLong K) := by
  refine F.ok sc__law_longest (fun vs H Q E h => ?_) (fun cdv A outer s H vs Q E hr h => ?_)
  · obtain ⟨vc, z, b, C, rfl, _⟩ := h
    rfl
  · obtain ⟨vc, z, b, C, rfl, hC, ok, q⟩ := h
    refine ⟨_, PSs.nox (pss_cons (ps_set (i := 2) sc__law_longest.nd rfl (Or.inl rfl) (pe_callB call_len (by rfl) T.b_len (by decide +kernel) (pa_cons (pe_ix ix_tup (pv 0) pe_int (fun _ _ => rfl)) pa_nil)))
      (pss_cons (ps_set (i := 3) sc__law_longest.nd rfl (Or.inr rfl) (pe_op op_rep (pe_lst (pa_cons pe_bl pa_nil)) (pv 2)))
      (pss_cons (ps_set (i := 4) sc__law_longest.nd rfl (Or.inl rfl) (pe_op op_rep (pe_lst (pa_cons pe_int pa_nil)) (pv 2)))
      (pss_cons (ps_for PassesOwn.never rfl (pi_range2 (by rfl) T.b_range (pa_cons pe_int (pa_cons (pe_op op_add (pv 2) pe_int) pa_nil))) (pg_name (i := 5) sc__law_longest.nd rfl (Or.inl rfl)) (pss_cons (ps_set (i := 6) sc__law_longest.nd rfl (Or.inl rfl) (pe_lst pa_nil))
      (pss_cons (ps_for PassesOwn.never rfl (pi_range1 (by rfl) T.b_range (pa_cons (pv 2) pa_nil)) (pg_name (i := 7) sc__law_longest.nd rfl (Or.inl rfl)) (pss_cons (ps_setLc (i := 8) (own := [("branch", 9)]) (g := (gName 9)) rfl sc__law_longest.nd rfl rfl (sw_true rfl rfl rfl (by decide +kernel)) (pi_tup (pe_ix ix_tup (pe_ix ix_tup (pv 0) pe_int (fun _ _ => rfl)) (pv 7) (fun _ _ => rfl))) (blkOk_by (N := N__law_longest) (sc := defScope s__law_longest) (by decide +kernel)) (fun _ _ _ _ _ => (pg_name (i := 9) sc__law_longest.nd rfl (Or.inl rfl))) (fun _ _ _ _ _ => (pts_one (PW.pt (pw_and (pt_cmpR (ninK (K := K) rfl) (pv 1) (pe_ix (ixT (K := K) rfl) (pv 9) pe_int (fun _ _ => rfl)) (by rfl)) (pw_and1 (pt_val (pe_ix (ixL (K := K) rfl) (pv 3) (pe_ix (ixT (K := K) rfl) (pv 9) pe_int (fun _ _ => rfl)) (fun _ _ => rfl)))))))) (fun _ _ _ _ _ => (pv 9)))
      (pss_cons (ps_expr (pe_bm PySem.F.plainAttrs_list PySem.F.slot_list_append PySem.F.type_list_append mt_append (pv 6) (pa_cons (pe_cmpR op_gt (pe_callB call_len (by rfl) T.b_len (by decide +kernel) (pa_cons (pv 8) pa_nil)) pe_int (nomark _)) pa_nil)))
      (pss_one (ps_if (PW.pt (pw_and (pt_val (pe_ix ix_list (pv 3) (pv 7) (fun _ _ => rfl))) (pw_and1 (pt_cmpR op_eq (pe_callB call_len (by rfl) T.b_len (by decide +kernel) (pa_cons (pv 8) pa_nil)) pe_int (nomark _))))) (pss_one (ps_asg (pv 5) (pg_sub (pv 4) (pv 7) set_list))) pss_nil)))))
      (pss_one (ps_set (i := 3) sc__law_longest.nd rfl (Or.inr rfl) (pv 6))))))
      (pss_one (ps_ret (pe_callTy (tupOfT (K := K) rfl) (by rfl) T.b_tuple (by decide +kernel) (pa_cons (pv 4) pa_nil)))))))), ?_⟩
    obtain ⟨pc, pq, xs, rfl, hpc, hpq, hA⟩ := chn_at hC
    have xl := dpA_len hA
    rw [List.length_map] at xl
    have few := ok.few
    have nl : (nx C z).length = C.length := by
      unfold nx
      rw [List.length_map]
    refine ⟨_, rfl, pc, _, _, _, rfl, rfl, hpc, atI_nat (j := 2) rfl, _, _, rfl, .inr ⟨_, hpq, rfl⟩, ?_⟩
    rw [xl]
    refine ⟨by show 1 ≤ sizeLine; decide, fun q1 hq1 => ⟨_, rfl, q1, _, _, rfl, rfl, upd_same, by omega, by omega, line5 (by show 1 * _ ≤ _; omega), fun a ha => ?_⟩⟩
    rw [Int.toNat_natCast, rep_list]
    have s1 := (same_new (o := .lst [.bl true]) hq1).trans (same_new (o := .lst (List.replicate C.length (.bl true))) ha)
    have ha1 := upd_same (H := upd H q1 (.lst [.bl true])) (a := a) (o := .lst (List.replicate C.length (.bl true)))
    generalize upd (upd H q1 (.lst [.bl true])) a (.lst (List.replicate C.length (.bl true))) = H1 at s1 ha1
    refine ⟨by show 1 ≤ sizeLine; decide, fun q2 hq2 => ⟨_, rfl, q2, _, _, rfl, rfl, upd_same, by omega, by omega, line5 (by show 1 * _ ≤ _; omega), fun Lr hLr => ?_⟩⟩
    rw [Int.toNat_natCast, rep_list]
    have s12 := (same_new (o := .lst [.int 0]) hq2).trans (same_new (o := .lst (List.replicate C.length (.int 0))) hLr)
    have s2 := s1.trans s12
    have hLr2 := upd_same (H := upd H1 q2 (.lst [.int 0])) (a := Lr) (o := .lst (List.replicate C.length (.int 0)))
    have ha2 := s12 _ _ ha1
    have aL : a ≠ Lr := ne_of_none (same_new (o := .lst [.int 0]) hq2 _ _ ha1) hLr
    have hLr0 : H Lr = none := by
      cases e : H Lr with
      | none => rfl
      | some o =>
        rw [(s1.trans (same_new (o := .lst [.int 0]) hq2)) _ _ e] at hLr
        cases hLr
    generalize upd (upd H1 q2 (.lst [.int 0])) Lr (.lst (List.replicate C.length (.int 0))) = H2 at s2 hLr2 ha2
    have e0 : List.replicate C.length (V.int 0) = (fnd (nx C z) 0).map vN := by
      show _ = ((List.range (nx C z).length).map fun _ => 0).map vN
      rw [List.map_const', List.length_range, List.map_replicate, nl]
      rfl
    have e1 : List.replicate C.length (V.bl true) = alv (nx C z) 0 := by
      unfold alv
      rw [show (fun s => V.bl (decide (ga (fnd (nx C z) 0) s = 0))) = fun _ => V.bl true from funext fun s => by rw [fnd_0]; rfl, List.map_const', List.length_range, nl]
    rw [e0] at hLr2
    rw [e1] at ha2
    refine ⟨_, rfl, _, _, rfl, rfl, ?_⟩
    have en : ((C.length : Int) + 1 - 1).toNat = C.length := by omega
    refine ⟨_, _, rfl, ⟨by decide, by decide, by omega, by omega⟩, for_range (lo := 1) (n := ((C.length : Int) + 1 - 1).toNat) (fun i σ H' => ∃ (a : Addr) (y5 y6 y7 y8 : Option V), σ = [some (.ref pc), some (.str z), some (.int (C.length : Int)), some (.ref a), some (.ref Lr), y5, y6, y7, y8, none] ∧ Same H H' ∧ a ≠ Lr ∧ H' a = some (.lst (alv (nx C z) i)) ∧ H' Lr = some (.lst ((fnd (nx C z) i).map vN))) ⟨a, _, _, _, _, rfl, s2, aL, ha2, hLr2⟩ ?_ ?_⟩
    · rintro i σ H3 hi ⟨a, y5, y6, y7, y8, rfl, s3, aL, ha3, hLr3⟩
      rw [en] at hi
      refine ⟨Nat.zero_le _, fun F0 hF => ?_⟩
      have FL : F0 ≠ Lr := (ne_of_none hLr3 hF).symm
      have Fa : F0 ≠ a := (ne_of_none ha3 hF).symm
      have s4 := s3.trans (same_new (o := .lst []) hF)
      have hF4 := upd_same (H := H3) (a := F0) (o := .lst [])
      have ha4 := same_new (o := .lst []) hF _ _ ha3
      have hLr4 := same_new (o := .lst []) hF _ _ hLr3
      have hF0 : H F0 = none := by
        cases e : H F0 with
        | none => rfl
        | some o =>
          rw [s3 _ _ e] at hF
          cases hF
      generalize upd H3 F0 (.lst []) = H4 at s4 hF4 ha4 hLr4
      refine ⟨_, rfl, _, rfl, by omega, by omega, for_range (lo := 0) (n := C.length) (fun j σ H' => ∃ (y7 y8 : Option V), σ = [some (.ref pc), some (.str z), some (.int (C.length : Int)), some (.ref a), some (.ref Lr), some (.int (1 + (i : Int))), some (.ref F0), y7, y8, none] ∧ Same H H' ∧ H' a = some (.lst (alv (nx C z) i)) ∧ H' F0 = some (.lst ((List.range j).map fun s => .bl (decide (ga (fnd (nx C z) (i + 1)) s = 0)))) ∧ H' Lr = some (.lst ((mid (nx C z) i j).map vN))) ⟨_, _, rfl, s4, ha4, hF4, by rw [mid_0]; exact hLr4⟩ ?_ ?_⟩
      · rintro j σ H5 hj ⟨y7, y8, rfl, s5, ha5, hF5, hLr5⟩
        rw [Int.zero_add]
        obtain ⟨xr, hxr, hdr⟩ := dpA_get hA (rowOf_at hj)
        obtain ⟨pr, rs, rfl, hpr, hrs⟩ := dp_tup hdr
        have rl := dpA_len hrs
        rw [List.length_map] at rl
        have okr := ok.row _ (List.mem_of_getElem? (rowOf_at hj))
        have few' := okr.few
        have hj' : j < (nx C z).length := by rw [nl]; exact hj
        refine ⟨_, rfl, pc, _, _, _, rfl, rfl, same_t s5 hpc, atI_nat (j := 2) rfl, _, rfl, pq, _, _, _, rfl, rfl, same_t s5 hpq, atI_nat hxr, pr, rfl, ⟨_, same_t s5 hpr⟩, fun M hM => lc_tup (K := K) (a := pr) (xs := rs) (fun k H' => Same H5 H' ∧ ∃ us : List V, H' M = some (.lst us) ∧ us.length = (((rowOf C j).take k).filter (onp z (fnd (nx C z) i))).length) ⟨same_new hM, [], upd_same, rfl⟩ (fun k H' _ e => same_t (s5.trans e.1) hpr) ?_ ?_⟩
        · rintro k y H6 hk ⟨s6, us, hM6, ul⟩
          obtain ⟨br, hbr, hy⟩ := dpA_mem (dpA_same (s5.trans s6) _ _ hrs) hk
          obtain ⟨pb, x0, x1, rfl, hpb, hd0, hd1⟩ := br_at hy
          obtain ⟨p1, rfl, hp1⟩ := sh_at hd1
          have okb := okr.to br (List.mem_of_getElem? hbr)
          have fl := List.length_filter_le (onp z (fnd (nx C z) i)) ((rowOf C j).take k)
          rw [List.length_take] at fl
          refine ⟨rfl, _, rfl, _, rfl, pb, _, _, _, rfl, rfl, hpb, atI_nat (j := 1) rfl, p1, _, rfl, .inr hp1, rfl, flat_strs _, ?_⟩
          rw [inV_str]
          refine ⟨_, rfl, ?_⟩
          have ft := take_snoc hbr
          refine ite2 (fun h => ?_) (fun h => ?_)
          · have h' : (!decide (z ∈ br.2.1)) = true := h
            have tl : br.2.2 < (nx C z).length := by
              rw [nl]
              exact okb.1
            refine ⟨_, rfl, _, rfl, pb, _, _, _, rfl, rfl, hpb, atI_nat (j := 2) rfl, a, _, _, _, rfl, rfl, SqL.of (s6 _ _ ha5), alv_at tl, _, rfl, ?_⟩
            refine ite2 (fun g => ?_) (fun g => ?_)
            · refine ⟨_, rfl, us, hM6, line6 (by omega), same_mut s6 hM, us ++ [.ref pb], upd_same, ?_⟩
              have : onp z (fnd (nx C z) i) br = true := by
                unfold onp
                rw [h', g]
                rfl
              rw [ft, List.filter_append, List.filter_cons_of_pos this, List.filter_nil, List.length_append, List.length_append, ul]
              rfl
            · refine ⟨s6, us, hM6, ?_⟩
              have : ¬ onp z (fnd (nx C z) i) br = true := fun o => by
                unfold onp at o
                rw [Bool.and_eq_true] at o
                exact g o.2
              rw [ft, List.filter_append, List.filter_cons_of_neg this, List.filter_nil, List.append_nil]
              exact ul
          · refine ⟨s6, us, hM6, ?_⟩
            have : ¬ onp z (fnd (nx C z) i) br = true := fun o => by
              unfold onp at o
              rw [Bool.and_eq_true] at o
              exact h o.1
            rw [ft, List.filter_append, List.filter_cons_of_neg this, List.filter_nil, List.append_nil]
            exact ul
        · rintro H6 ⟨s6, us, hM6, ul⟩
          rw [rl, List.take_length] at ul
          have ha6 := s6 _ _ ha5
          have hF6 := s6 _ _ hF5
          have hLr6 := s6 _ _ hLr5
          have ev : decide ((0 : Int) < (us.length : Int)) = decide (ga (fnd (nx C z) (i + 1)) j = 0) := by
            rw [alive_step hj', on_any, ← ul, Bool.eq_iff_iff, decide_eq_true_iff, decide_eq_true_iff]
            omega
          refine ⟨_, rfl, .inl ⟨rfl, _, SqL.of hF6⟩, _, rfl, _, _, rfl, .inl ⟨_, SqL.of hM6, rfl⟩, _, _, rfl, rfl, F0, _, V.bl (decide (ga (fnd (nx C z) (i + 1)) j = 0)), rfl, congrArg (fun c => [V.bl c]) ev, hF6, line6 (by rw [List.length_map, List.length_range]; omega), ?_⟩
          have s7 : Same H (upd H6 F0 (.lst (((List.range j).map fun s => V.bl (decide (ga (fnd (nx C z) (i + 1)) s = 0))) ++ [V.bl (decide (ga (fnd (nx C z) (i + 1)) j = 0))]))) := same_mut (s5.trans s6) hF0
          have hF7 : (upd H6 F0 (.lst (((List.range j).map fun s => V.bl (decide (ga (fnd (nx C z) (i + 1)) s = 0))) ++ [V.bl (decide (ga (fnd (nx C z) (i + 1)) j = 0))]))) F0 = some (.lst ((List.range (j + 1)).map fun s => V.bl (decide (ga (fnd (nx C z) (i + 1)) s = 0)))) := by
            rw [upd_same, List.range_succ, List.map_append]
            rfl
          have ha7 : (upd H6 F0 (.lst (((List.range j).map fun s => V.bl (decide (ga (fnd (nx C z) (i + 1)) s = 0))) ++ [V.bl (decide (ga (fnd (nx C z) (i + 1)) j = 0))]))) a = some (.lst (alv (nx C z) i)) := by
            rw [upd_ne Fa.symm]
            exact ha6
          have hLr7 : (upd H6 F0 (.lst (((List.range j).map fun s => V.bl (decide (ga (fnd (nx C z) (i + 1)) s = 0))) ++ [V.bl (decide (ga (fnd (nx C z) (i + 1)) j = 0))]))) Lr = some (.lst ((mid (nx C z) i j).map vN)) := by
            rw [upd_ne FL.symm]
            exact hLr6
          have hM7 : (upd H6 F0 (.lst (((List.range j).map fun s => V.bl (decide (ga (fnd (nx C z) (i + 1)) s = 0))) ++ [V.bl (decide (ga (fnd (nx C z) (i + 1)) j = 0))]))) M = some (.lst us) := by
            rw [upd_ne (ne_of_none hF5 hM).symm]
            exact hM6
          generalize upd H6 F0 (.lst (((List.range j).map fun s => V.bl (decide (ga (fnd (nx C z) (i + 1)) s = 0))) ++ [V.bl (decide (ga (fnd (nx C z) (i + 1)) j = 0))])) = H7 at s7 hF7 ha7 hLr7 hM7
          have rd := on_rdy (C := C) (z := z) (g := fnd (nx C z) i) (s := j)
          have stay : ¬ rdy (nx C z) (fnd (nx C z) i) j = true → mid (nx C z) i (j + 1) = mid (nx C z) i j := fun h => mid_same (by rw [fnd_s hj', if_neg h])
          refine ⟨_, rfl, _, rfl, a, _, _, _, rfl, rfl, SqL.of ha7, alv_at hj', _, rfl, ?_⟩
          refine ite2 (fun g => ⟨_, rfl, _, _, rfl, .inl ⟨_, SqL.of hM7, rfl⟩, rfl, _, rfl, ?_⟩) (fun g => ?_)
          · refine ite2 (fun g2 => ?_) (fun g2 => ?_)
            · have u0 : us.length = 0 := by
                have : V.int ((us.length : Nat) : Int) = V.int 0 := of_decide_eq_true g2
                have := V.int.inj this
                omega
              have r : rdy (nx C z) (fnd (nx C z) i) j = true := by
                rw [rd, g, ← ul, decide_eq_true u0]
                rfl
              refine ⟨_, rfl, _, rfl, _, rfl, Lr, _, _, j, rfl, rfl, hLr7, Evl.ixN_nat (by rw [List.length_map, mid_len]; exact hj'), _, _, rfl, same_mut s7 hLr0, ?_, ?_, ?_⟩
              · rw [upd_ne aL]
                exact ha7
              · rw [upd_ne FL]
                exact hF7
              · rw [upd_same, ← mid_set, List.map_set, fnd_s hj', if_pos r]
                have : V.int (1 + (i : Int)) = vN (i + 1) := by
                  show _ = V.int (((i + 1 : Nat)) : Int)
                  congr 1
                  omega
                rw [this]
            · refine ⟨_, _, rfl, s7, ha7, hF7, ?_⟩
              rw [stay fun r => ?_]
              · exact hLr7
              · rw [rd, Bool.and_eq_true] at r
                have u0 := of_decide_eq_true r.2
                rw [← ul] at u0
                exact g2 (by show decide (V.int ((us.length : Nat) : Int) = V.int 0) = true; rw [u0]; exact decide_eq_true rfl)
          · refine ⟨_, _, rfl, s7, ha7, hF7, ?_⟩
            rw [stay fun r => g (decide_eq_true (rdy_iff.mp r).1)]
            exact hLr7
      · rintro σ H5 ⟨y7, y8, rfl, s5, ha5, hF5, hLr5⟩
        rw [← nl, mid_end] at hLr5
        exact ⟨_, rfl, F0, _, _, _, _, rfl, s5, FL, by unfold alv; rw [nl]; exact hF5, hLr5⟩
    · rintro σ H3 ⟨a, y5, y6, y7, y8, rfl, s3, aL, ha3, hLr3⟩
      rw [en] at hLr3
      refine ⟨_, rfl, Lr, _, rfl, .inl ⟨SqL.of hLr3, fun p hp => ?_⟩⟩
      refine q _ p (s3.trans (same_new hp)) ?_
      rw [upd_same]
      unfold rk
      rw [nl]
end
end Mt
namespace Mt
open PySem PySem.Spec PyProof.Rows L2
theorem eqDK {X : Cx} {K : PySem.W.Frag} (h : X.K = K) (hu : X.A.units + 64 < cLine) : OpR X (compareOp .Eq) (rEqD K) := h ▸ op_eqD hu
/-- where a way of branches from s ends -/
def stA (s : Nat) (l : List Br) : Nat := match l.getLast? with
  | some b => b.2.2
  | none => s
def Fol (C : Chn) (s : Nat) (l : List Br) : Prop := ∀ i b, l[i]? = some b → b ∈ rowOf C (stA s (l.take i))
theorem stA_snoc (s : Nat) (l : List Br) (b : Br) : stA s (l ++ [b]) = b.2.2 := by
  unfold stA
  rw [List.getLast?_append]
  rfl
theorem uniq_br {r : List Br} {b : Br} (h : (r.map (·.1)).Pairwise NP) (hb : b ∈ r) : r.filter (fun x => decide (x.1 = b.1)) = [b] := by
  induction r with
  | nil => exact absurd hb List.not_mem_nil
  | cons a t ih =>
    obtain ⟨h1, h2⟩ := List.pairwise_cons.mp h
    rcases List.mem_cons.mp hb with rfl | hb
    · rw [List.filter_cons_of_pos (by simp)]
      have : t.filter (fun x => decide (x.1 = b.1)) = [] := List.filter_eq_nil_iff.mpr fun x hx e => by
        have e := of_decide_eq_true e
        have := h1 x.1 (List.mem_map.mpr ⟨x, hx, rfl⟩)
        exact this.1 (by rw [e]; exact List.prefix_refl _)
      rw [this]
    · have : ¬ (decide (a.1 = b.1)) = true := fun e => by
        have e := of_decide_eq_true e
        have := h1 b.1 (List.mem_map.mpr ⟨b, hb, rfl⟩)
        exact this.1 (by show a.1 <+: b.1; rw [e]; exact List.prefix_refl _)
      rw [List.filter_cons_of_neg (p := fun x : Br => decide (x.1 = b.1)) this]
      exact ih h2 hb
def spAlong (K : PySem.W.Frag) : Sp := fun vs H Q _ => ∃ (vr vb : V) (s : Nat) (base : Int) (C : Chn) (l : List Br), vs = [vr, .int s, vb] ∧ Dp K H vr (.tuple (C.map dRw)) ∧ ChnOk base C ∧ s < C.length ∧ Fol C s l ∧ l.length ≤ 1000 ∧ Dp K H vb (.tuple (l.map fun b => dI b.1)) ∧
  ∀ H' v, Same H H' → Dp K H' v (.list (l.map dBr)) → Q v H'
section
variable {P : Program} {w : World} {K : PySem.W.Frag} {mg : Str → Option Value} {base : Heap}
theorem ok_branches_along (T : Txt K mg) {f : Addr} {fd : FuncData} (F : FnP K "branches_along" s_branches_along f fd) : FnOk P w K mg base CX0 1 f fd ["rows", "state", "blocks"] (spAlong K) := by
  refine F.ok sc_branches_along (fun vs H Q E h => ?_) (fun cdv A outer s H vs Q E hr h => ?_)
  · obtain ⟨vr, vb, s, b, C, l, rfl, _⟩ := h
    rfl
  · obtain ⟨vr, vb, s0, b, C, l, rfl, hR, ok, hs, fol, hl, hb, q⟩ := h
    refine ⟨_, PSs.nox (pss_cons (ps_set (i := 3) sc_branches_along.nd rfl (Or.inl rfl) (pe_lst pa_nil))
      (pss_cons (ps_for PassesOwn.never rfl (pi_tup (pv 2)) (pg_name (i := 4) sc_branches_along.nd rfl (Or.inr rfl)) (pss_cons (ps_setLc (i := 5) (own := [("branch", 6)]) (g := (gName 6)) rfl sc_branches_along.nd rfl rfl (sw_true rfl rfl rfl (by decide +kernel)) (pi_tup (pe_ix ix_tup (pv 0) (pv 1) (fun _ _ => rfl))) (blkOk_by (N := N_branches_along) (sc := defScope s_branches_along) (by decide +kernel)) (fun _ _ _ _ _ => (pg_name (i := 6) sc_branches_along.nd rfl (Or.inl rfl))) (fun _ _ _ _ _ => (pts_one (pt_cmpR (eqDK (K := K) rfl (hr.units)) (pe_ix (ixT (K := K) rfl) (pv 6) pe_int (fun _ _ => rfl)) (pv 4) (nomark _)))) (fun _ _ _ _ _ => (pv 6)))
      (pss_cons (ps_if (pt_not (pt_truth (pv 5) (by intro _; rfl))) (pss_one (ps_ret pe_non)) pss_nil)
      (pss_cons (ps_expr (pe_bm PySem.F.plainAttrs_list PySem.F.slot_list_append PySem.F.type_list_append mt_append (pv 3) (pa_cons (pe_ix ix_list (pv 5) pe_int (fun _ _ => rfl)) pa_nil)))
      (pss_one (ps_set (i := 1) sc_branches_along.nd rfl (Or.inl rfl) (pe_ix ix_tup (pe_ix ix_list (pv 5) pe_int (fun _ _ => rfl)) pe_int (fun _ _ => rfl))))))))
      (pss_one (ps_ret (pv 3))))), ?_⟩
    obtain ⟨pq, xs, rfl, hpq, hA⟩ := dp_tup hR
    obtain ⟨pB, ys, rfl, hpB, hB⟩ := dp_tup hb
    have yl := dpA_len hB
    rw [List.length_map] at yl
    refine ⟨Nat.zero_le _, fun L hL => ?_⟩
    have s1 := same_new (o := .lst []) hL
    have hL1 := upd_same (H := H) (a := L) (o := .lst [])
    generalize upd H L (.lst []) = H1 at s1 hL1
    refine ⟨_, rfl, pB, rfl, ⟨_, same_t s1 hpB⟩, for_tup (K := K) (a := pB) (xs := ys) (fun i σ H' => ∃ (y4 y5 : Option V) (zs : List V), σ = [some (.ref pq), some (.int (stA s0 (l.take i) : Nat)), some (.ref pB), some (.ref L), y4, y5, none] ∧ Same H H' ∧ H' L = some (.lst zs) ∧ DpAll K H' zs ((l.take i).map dBr) ∧ stA s0 (l.take i) < C.length) ⟨_, _, [], rfl, s1, hL1, .nil, hs⟩ (fun i σ H' _ ⟨_, _, _, _, s, _⟩ => same_t s hpB) ?_ ?_⟩
    · rintro i y σ H2 hi ⟨y4, y5, zs, rfl, s2, hL2, hzs, hst⟩
      obtain ⟨br, hbr, hy⟩ := dpA_mem hB hi
      have il := (List.getElem?_eq_some_iff.mp hbr).1
      have hin := fol i br hbr
      obtain ⟨xr, hxr, hdr⟩ := dpA_get hA (rowOf_at hst)
      have okr := ok.row _ (List.mem_of_getElem? (rowOf_at hst))
      generalize stA s0 (l.take i) = t at hin hxr hdr okr hst
      obtain ⟨pr, rs, rfl, hpr, hrs⟩ := dp_tup hdr
      have rl := dpA_len hrs
      rw [List.length_map] at rl
      have few := okr.few
      have un := uniq_br okr.cm.pf hin
      have zl := dpA_len hzs
      rw [List.length_map, List.length_take] at zl
      refine ⟨_, rfl, _, rfl, pq, _, _, _, rfl, rfl, same_t s2 hpq, atI_nat hxr, pr, rfl, ⟨_, same_t s2 hpr⟩, fun M hM => lc_tup (K := K) (a := pr) (xs := rs) (fun k H' => Same H2 H' ∧ ∃ us : List V, H' M = some (.lst us) ∧ DpAll K H' us ((((rowOf C t).take k).filter fun x => decide (x.1 = br.1)).map dBr)) ⟨same_new hM, [], upd_same, .nil⟩ (fun k H' _ e => same_t (s2.trans e.1) hpr) ?_ ?_⟩
      · rintro k x H3 hk ⟨s3, us, hM3, hus⟩
        obtain ⟨bx, hbx, hx⟩ := dpA_mem (dpA_same (s2.trans s3) _ _ hrs) hk
        have hx' := hx
        obtain ⟨px, x0, x1, rfl, hpx, hd0, hd1⟩ := br_at hx
        have ul := dpA_len hus
        rw [List.length_map] at ul
        have fl := List.length_filter_le (fun x : Br => decide (x.1 = br.1)) ((rowOf C t).take k)
        rw [List.length_take] at fl
        refine ⟨rfl, _, rfl, px, _, _, _, rfl, rfl, hpx, atI_nat (j := 0) rfl, _, rfl, dI bx.1, dI br.1, hd0, dp_same (s2.trans s3) _ _ hy, dI_sh _, dI_sh _, _, rfl, ?_⟩
        rw [eqv_I]
        have ft : ((rowOf C t).take (k + 1)).filter (fun x => decide (x.1 = br.1)) = ((rowOf C t).take k).filter (fun x => decide (x.1 = br.1)) ++ [bx].filter (fun x => decide (x.1 = br.1)) := by
          rw [take_snoc hbx, List.filter_append]
        cases hdec : decide (bx.1 = br.1) with
        | true =>
          refine ⟨_, rfl, us, hM3, line6 (by omega), same_mut s3 hM, us ++ [.ref px], upd_same, ?_⟩
          have kM := keepT_nt (o := .lst (us ++ [.ref px])) (nt_lst _) hM3
          rw [ft, List.filter_cons_of_pos (p := fun x : Br => decide (x.1 = br.1)) hdec, List.filter_nil, List.map_append]
          exact dpA_snoc (dpA_keep kM _ _ (noLs_br _) hus) (dp_keep kM _ _ (dBr_noL _) hx')
        | false =>
          refine ⟨s3, us, hM3, ?_⟩
          rw [ft, List.filter_cons_of_neg (p := fun x : Br => decide (x.1 = br.1)) (by simp [hdec]), List.filter_nil, List.append_nil]
          exact hus
      · rintro H3 ⟨s3, us, hM3, hus⟩
        rw [rl, List.take_length, un] at hus
        obtain ⟨x0, r0, rfl, hx0, hr0⟩ := dpA_cons hus
        cases dpA_nil hr0
        have hx' := hx0
        obtain ⟨px, z0, z1, rfl, hpx, hd0, hd1⟩ := br_at hx0
        have hL3 := s3 _ _ hL2
        have kL := keepT_nt (o := .lst (zs ++ [.ref px])) (nt_lst _) hL3
        have LM : M ≠ L := (ne_of_none hL2 hM).symm
        refine ⟨_, rfl, true, .inl ⟨_, SqL.of hM3, rfl⟩, iteNT ?_⟩
        refine ⟨_, rfl, .inl ⟨rfl, _, SqL.of hL3⟩, _, rfl, M, _, _, _, rfl, rfl, SqL.of hM3, atI_nat (j := 0) rfl, L, zs, _, rfl, rfl, hL3, line6 (by omega), ?_⟩
        have hM4 : (upd H3 L (.lst (zs ++ [.ref px]))) M = some (.lst [.ref px]) := by
          rw [upd_ne LM]
          exact hM3
        refine ⟨_, rfl, M, _, _, _, rfl, rfl, SqL.of hM4, atI_nat (j := 0) rfl, px, _, _, _, rfl, rfl, sqt_keep kL hpx, atI_nat (j := 2) rfl, ?_⟩
        have es := stA_snoc s0 (l.take i) br
        rw [← take_snoc hbr] at es
        rw [es]
        refine ⟨_, _, zs ++ [.ref px], rfl, same_mut (s2.trans s3) hL, upd_same, ?_, (okr.to br hin).1⟩
        rw [take_snoc hbr, List.map_append]
        exact dpA_snoc (dpA_keep kL _ _ (noLs_br _) (dpA_same s3 _ _ hzs)) (dp_keep kL _ _ (dBr_noL _) hx')
    · rintro σ H2 ⟨y4, y5, zs, rfl, s2, hL2, hzs, hst⟩
      rw [yl, List.take_length] at hzs
      exact ⟨_, rfl, q _ _ s2 (.lst (SqL.of hL2) hzs)⟩
end
end Mt
namespace Mt
open PySem PySem.Spec PyProof.Rows L2
def spSure (K : PySem.W.Frag) : Sp := fun vs H Q _ => ∃ (vr : V) (z : Str) (pk : Addr) (rho : Nat) (base : Int) (n : Nat) (r : List Br) (ks : List Nat), vs = [vr, .str z, .ref pk, .int (rho : Int)] ∧ Dp K H vr (dRw r) ∧ RwOk base n r ∧ SqT K H pk (ks.map vN) ∧ ks.length = n ∧
  (∀ b ∈ r, z ∈ b.2.1 ∨ (0 < ga ks b.2.2 ∧ ga ks b.2.2 < rho)) ∧ ∀ H', Same H H' → Q (.bl true) H'
section
variable {P : Program} {w : World} {K : PySem.W.Frag} {mg : Str → Option Value} {base : Heap}
theorem ok_is_sure (T : Txt K mg) {f : Addr} {fd : FuncData} (F : FnP K "is_sure" s_is_sure f fd) : FnOk P w K mg base CX0 1 f fd ["row", "mark", "ranks", "rank"] (spSure K) := by
  refine F.ok sc_is_sure (fun vs H Q E h => ?_) (fun cdv A outer s H vs Q E hr h => ?_)
  · obtain ⟨vr, z, pk, rho, b, n, r, ks, rfl, _⟩ := h
    rfl
  · obtain ⟨vr, z, pk, rho, b, n, r, ks, rfl, hR, okr, hk, kl, cond, q⟩ := h
    refine ⟨_, PSs.nox (pss_one (ps_ret (pe_callB (cr_all rfl) (by rfl) T.b_all (by decide +kernel) (pa_cons (pe_lc (own := [("_", 4), ("shown", 5), ("target", 6)]) (g := (gTup K 3 (gCons (gName 4) (gCons (gName 5) (gCons (gName 6) gNil))))) (tt := tYes) rfl sc_is_sure.nd (pi_tup (pv 0)) (blkOk_by (N := N_is_sure) (sc := defScope s_is_sure) (by decide +kernel)) (fun _ _ _ _ _ => (pg_tup rfl (pgs_cons (pg_name (i := 4) sc_is_sure.nd rfl (Or.inl rfl)) (pgs_cons (pg_name (i := 5) sc_is_sure.nd rfl (Or.inl rfl)) (pgs_cons (pg_name (i := 6) sc_is_sure.nd rfl (Or.inl rfl)) pgs_nil))))) (fun _ _ _ _ _ => pts_nil) (fun _ _ _ _ _ => (pe_or (pe_cmpR (inK (K := K) rfl) (pv 1) (pv 5) (by rfl)) (pe_one (pe_chain op_le op_lt pe_int (pe_ix (ixT (K := K) rfl) (pv 2) (pv 6) (fun _ _ => rfl)) (pv 3)))))) pa_nil)))), ?_⟩
    obtain ⟨pr, rs, rfl, hpr, hrs⟩ := dp_tup hR
    have rl := dpA_len hrs
    rw [List.length_map] at rl
    have few := okr.few
    refine ⟨_, rfl, pr, rfl, ⟨_, hpr⟩, fun M hM => lc_tup (K := K) (a := pr) (xs := rs) (fun j H' => Same H H' ∧ H' M = some (.lst ((r.take j).map fun _ => .bl true))) ⟨same_new hM, upd_same⟩ (fun j H' _ e => same_t e.1 hpr) ?_ ?_⟩
    · rintro j y H2 hj ⟨s2, hM2⟩
      obtain ⟨br, hbr, hy⟩ := dpA_mem (dpA_same s2 _ _ hrs) hj
      obtain ⟨pb, x0, x1, rfl, hpb, hd0, hd1⟩ := br_at hy
      obtain ⟨p1, rfl, hp1⟩ := sh_at hd1
      have okb := okr.to br (List.mem_of_getElem? hbr)
      have jl := (List.getElem?_eq_some_iff.mp hbr).1
      have fin : ∀ y : V, y = .bl true → ∃ acc, H2 M = some (.lst acc) ∧ acc.length < sizeLine ∧ Same H (upd H2 M (.lst (acc ++ [y]))) ∧ upd H2 M (.lst (acc ++ [y])) M = some (.lst ((r.take (j + 1)).map fun _ => .bl true)) := fun y e => by
        subst e
        refine ⟨_, hM2, by rw [List.length_map, List.length_take]; exact line6 (by omega), same_mut s2 hM, ?_⟩
        rw [upd_same, take_map_succ (f := fun _ : Br => V.bl true) hbr]
      refine ⟨_, _, rfl, hpb, rfl, _, _, rfl, _, _, rfl, _, _, rfl, rfl, rfl, ?_⟩
      refine ⟨_, rfl, _, rfl, p1, _, rfl, .inr hp1, rfl, flat_strs _, ?_⟩
      refine ⟨_, rfl, ite2 (fun _ => fin _ rfl) (fun h => ?_)⟩
      have h' : ¬ inV (.str z) (br.2.1.map V.str) = true := h
      rw [inV_str] at h'
      rcases cond br (List.mem_of_getElem? hbr) with c | ⟨c1, c2⟩
      · exact absurd (decide_eq_true c) h'
      · refine ⟨_, rfl, _, rfl, pk, _, _, _, rfl, rfl, same_t s2 hk, vN_at (by rw [kl]; exact okb.1), _, _, rfl, rfl, _, rfl, ite2 (fun _ => ?_) (fun g => absurd (decide_eq_true (show (1 : Int) ≤ ((ga ks br.2.2 : Nat) : Int) by omega)) g)⟩
        refine ⟨_, rfl, _, _, rfl, rfl, fin _ ?_⟩
        exact congrArg V.bl (decide_eq_true (show ((ga ks br.2.2 : Nat) : Int) < (rho : Int) by omega))
    · rintro H2 ⟨s2, hM2⟩
      rw [rl, List.take_length] at hM2
      refine ⟨M, r.map fun _ => true, rfl, SqL.of (by rw [List.map_map]; exact hM2), ?_⟩
      rw [all_true]
      exact q _ s2
end
end Mt
namespace Mt
open PySem PySem.Spec PyProof.Rows L2
theorem walk_zipT {K : PySem.W.Frag} {a b : Addr} {xs ys : List V} {n : Nat} (hn : n = min xs.length ys.length) : Walk (RZ.ItzT K a b) n (fun H => SqT K H a xs ∧ SqT K H b ys) (YPair (fun i => xs[i]?) (fun i => ys[i]?)) := by
  subst hn
  refine ⟨fun i _ hi q => ?_, fun _ q => ⟨xs, ys, q.1, q.2, by omega⟩, fun i H v H' _ q y => ?_⟩
  · have h1 : i < xs.length := by omega
    have h2 : i < ys.length := by omega
    exact ⟨xs, ys, xs[i], ys[i], q.1, q.2, by simp [h1], by simp [h2]⟩
  · obtain ⟨T, x, z, h1, h2, h3, h4, h5⟩ := y
    exact ⟨T, x, z, h1, h2, h3, h4 xs q.1, h5 ys q.2⟩
def spJRanks (K : PySem.W.Frag) : Sp := fun vs H Q _ => ∃ (vc : V) (z : Str) (pk : Addr) (base : Int) (C : Chn), vs = [vc, .str z, .ref pk] ∧ Dp K H vc (dChn base C) ∧ ChnOk base C ∧ SqT K H pk ((rk (nx C z)).map vN) ∧ ∀ H', Same H H' → Q (.bl (decide (0 < ga (rk (nx C z)) 0))) H'
section
variable {P : Program} {w : World} {K : PySem.W.Frag} {mg : Str → Option Value} {base : Heap}
theorem ok_judge_ranks (T : Txt K mg) (D_is_sure : Kept P w K mg base 1 "is_sure" ["row", "mark", "ranks", "rank"] (spSure K)) {f : Addr} {fd : FuncData} (F : FnP K "judge_ranks" s_judge_ranks f fd) : FnOk P w K mg base CX0 2 f fd ["chain", "mark", "ranks"] (spJRanks K) := by
  refine F.ok sc_judge_ranks (fun vs H Q E h => ?_) (fun cdv A outer s H vs Q E hr h => ?_)
  · obtain ⟨vc, z, pk, b, C, rfl, _⟩ := h
    rfl
  · obtain ⟨vc, z, pk, b, C, rfl, hC, ok, hk, q⟩ := h
    refine ⟨_, PSs.nox (pss_cons (ps_set (i := 3) sc_judge_ranks.nd rfl (Or.inl rfl) (pe_ix ix_tup (pv 0) pe_int (fun _ _ => rfl)))
      (pss_cons (ps_if (PW.pt (pw_or (pt_cmpR op_ne (pe_callB call_len (by rfl) T.b_len (by decide +kernel) (pa_cons (pv 2) pa_nil)) (pe_callB call_len (by rfl) T.b_len (by decide +kernel) (pa_cons (pv 3) pa_nil)) (nomark _)) (pw_or (pt_not (pt_val (pe_callB (cr_all rfl) (by rfl) T.b_all (by decide +kernel) (pa_cons (pe_lc (own := [("rank", 4)]) (g := (gName 4)) (tt := tYes) rfl sc_judge_ranks.nd (pi_tup (pv 2)) (blkOk_by (N := N_judge_ranks) (sc := defScope s_judge_ranks) (by decide +kernel)) (fun _ _ _ _ _ => (pg_name (i := 4) sc_judge_ranks.nd rfl (Or.inl rfl))) (fun _ _ _ _ _ => pts_nil) (fun _ _ _ _ _ => (pe_cmpR op_ge (pv 4) pe_int (nomark _)))) pa_nil)))) (pw_or1 (pt_cmpR op_eq (pe_ix ix_tup (pv 2) pe_int (fun _ _ => rfl)) pe_int (nomark _)))))) (pss_one (ps_ret pe_bl)) pss_nil)
      (pss_one (ps_ret (pe_callB (cr_all rfl) (by rfl) T.b_all (by decide +kernel) (pa_cons (pe_lc (own := [("row", 5), ("rank", 4)]) (g := (gTup K 2 (gCons (gName 5) (gCons (gName 4) gNil)))) (tt := tYes) rfl sc_judge_ranks.nd (RZ.pi_zipA (by rfl) T.b_zip (pa_cons (pv 3) (pa_cons (pv 2) pa_nil))) (blkOk_by (N := N_judge_ranks) (sc := defScope s_judge_ranks) (by decide +kernel)) (fun _ _ _ _ _ => (pg_tup rfl (pgs_cons (pg_name (i := 5) sc_judge_ranks.nd rfl (Or.inl rfl)) (pgs_cons (pg_name (i := 4) sc_judge_ranks.nd rfl (Or.inl rfl)) pgs_nil)))) (fun _ _ _ _ _ => pts_nil) (fun _ _ _ _ _ => (pe_or (pe_cmpR op_eq (pv 4) pe_int (nomark _)) (pe_one (pe_d D_is_sure (hr.mono (by decide)) (by rfl) (pa_cons (pv 5) (pa_cons (pv 1) (pa_cons (pv 2) (pa_cons (pv 4) pa_nil))))))))) pa_nil)))))), ?_⟩
    obtain ⟨pc, pq, xs, rfl, hpc, hpq, hA⟩ := chn_at hC
    have xl := dpA_len hA
    rw [List.length_map] at xl
    have few := ok.few
    have pos := ok.pos
    have kl : (rk (nx C z)).length = C.length := by
      unfold rk
      rw [fnd_len]
      unfold nx
      rw [List.length_map]
    refine ⟨_, rfl, pc, _, _, _, rfl, rfl, hpc, atI_nat (j := 2) rfl, ?_⟩
    refine ⟨_, rfl, _, _, rfl, .inr ⟨_, hk, rfl⟩, _, rfl, _, _, rfl, .inr ⟨_, hpq, rfl⟩, rfl, _, rfl, ite2 (fun h => absurd h ?_) (fun _ => ?_)⟩
    · rw [List.length_map, kl, xl]
      simp
    · refine ⟨_, rfl, pk, rfl, ⟨_, hk⟩, fun M hM => lc_tup (K := K) (a := pk) (xs := (rk (nx C z)).map vN) (fun j H' => Same H H' ∧ H' M = some (.lst (((rk (nx C z)).take j).map fun _ => .bl true))) ⟨same_new hM, upd_same⟩ (fun j H' _ e => same_t e.1 hk) ?_ ?_⟩
      · rintro j y H2 hj ⟨s2, hM2⟩
        rw [List.getElem?_map] at hj
        obtain ⟨k, hkj, rfl⟩ := Option.map_eq_some_iff.mp hj
        have jl := (List.getElem?_eq_some_iff.mp hkj).1
        have ev : decide ((0 : Int) ≤ (k : Int)) = true := decide_eq_true (by omega)
        refine ⟨rfl, _, rfl, _, _, rfl, rfl, _, hM2, by rw [List.length_map, List.length_take]; exact line6 (by omega), same_mut s2 hM, ?_⟩
        rw [upd_same, ← take_map_succ (f := fun _ : Nat => V.bl true) hkj]
        exact congrArg (fun c => some (HO.lst (((rk (nx C z)).take j).map (fun _ => V.bl true) ++ [V.bl c]))) ev
      · rintro H2 ⟨s2, hM2⟩
        rw [List.length_map, List.take_length] at hM2
        refine ⟨M, (rk (nx C z)).map fun _ => true, rfl, SqL.of (by rw [List.map_map]; exact hM2), ?_⟩
        rw [all_true]
        refine ⟨_, rfl, iteNT ?_⟩
        have hk2 := same_t s2 hk
        refine ⟨_, rfl, pk, _, _, _, rfl, rfl, hk2, vN_at (i := 0) (by rw [kl]; exact pos), rfl, _, rfl, ?_⟩
        refine ite2 (fun h => ?_) (fun h => ?_)
        · have g0 : ga (rk (nx C z)) 0 = 0 := by
            have : V.int ((ga (rk (nx C z)) 0 : Nat) : Int) = V.int 0 := of_decide_eq_true h
            have := V.int.inj this
            omega
          have e : decide (0 < ga (rk (nx C z)) 0) = false := decide_eq_false (by omega)
          rw [e] at q
          exact q _ s2
        · have g0 : 0 < ga (rk (nx C z)) 0 := by
            refine Nat.pos_of_ne_zero fun g => h ?_
            show decide (V.int ((ga (rk (nx C z)) 0 : Nat) : Int) = V.int 0) = true
            rw [g]
            exact decide_eq_true rfl
          have e : decide (0 < ga (rk (nx C z)) 0) = true := decide_eq_true g0
          rw [e] at q
          refine ⟨_, rfl, _, rfl, pq, pk, xs, _, rfl, .inr ⟨same_t s2 hpq, hk2, fun M2 hM2' => lc_it (walk_zipT (n := C.length) (by rw [List.length_map, kl, xl, Nat.min_self])) (fun j H' => Same H2 H' ∧ H' M2 = some (.lst ((C.take j).map fun _ => .bl true))) ⟨same_new hM2', upd_same⟩ (fun j H' _ e => ⟨same_t (s2.trans e.1) hpq, same_t e.1 hk2⟩) ?_ ?_⟩⟩
          · rintro j x H3 H3' hj ⟨s3, hM3⟩ ⟨T', u, v, rfl, hT, rfl, hu, hv⟩
            have hv : ((rk (nx C z)).map vN)[j]? = some v := hv
            rw [List.getElem?_map] at hv
            obtain ⟨k, hkj, rfl⟩ := Option.map_eq_some_iff.mp hv
            have ek : k = ga (rk (nx C z)) j := by
              unfold ga
              rw [hkj]
              rfl
            obtain ⟨xr, hxr, hdr⟩ := dpA_get hA (rowOf_at hj)
            have hu : xs[j]? = some u := hu
            rw [hu] at hxr
            obtain rfl := Option.some.inj hxr
            have okr := ok.row _ (List.mem_of_getElem? (rowOf_at hj))
            have s4 := s3.trans (same_new (o := .tup [u, vN k]) hT)
            have hM4 := same_new (o := .tup [u, vN k]) hT _ _ hM3
            have hT4 := upd_same (H := H3) (a := T') (o := .tup [u, vN k])
            generalize upd H3 T' (.tup [u, vN k]) = H4 at s4 hM4 hT4
            have fin : ∀ H5, Same H4 H5 → ∃ acc, H5 M2 = some (.lst acc) ∧ acc.length < sizeLine ∧ Same H2 (upd H5 M2 (.lst (acc ++ [.bl true]))) ∧ upd H5 M2 (.lst (acc ++ [.bl true])) M2 = some (.lst ((C.take (j + 1)).map fun _ => .bl true)) := fun H5 s5 => by
              refine ⟨_, s5 _ _ hM4, by rw [List.length_map, List.length_take]; exact line6 (by omega), same_mut (s4.trans s5) hM2', ?_⟩
              rw [upd_same, take_map_succ (f := fun _ : List Br => V.bl true) (rowOf_at hj)]
            refine ⟨T', _, rfl, SqT.of hT4, rfl, _, _, rfl, _, _, rfl, rfl, rfl, ?_⟩
            refine ⟨_, rfl, rfl, _, rfl, ite2 (fun _ => fin _ (Same.refl _)) (fun hne => ?_)⟩
            have kp : 0 < ga (rk (nx C z)) j := by
              rw [← ek]
              refine Nat.pos_of_ne_zero fun g => hne ?_
              rw [g]
              exact decide_eq_true rfl
            refine ⟨_, rfl, _, rfl, _, rfl, _, rfl, u, z, pk, k, b, C.length, rowOf C j, rk (nx C z), rfl, dp_same (s2.trans s4) _ _ hdr, okr, same_t s4 hk2, kl, fun br hbr => ?_, fun H5 s5 => fin H5 s5⟩
            by_cases zin : z ∈ br.2.1
            · exact .inl zin
            · right
              have ht : br.2.2 ∈ tgs (nx C z) j := by
                rw [tgs_nx]
                exact List.mem_map.mpr ⟨br, List.mem_filter.mpr ⟨hbr, by simpa using zin⟩, rfl⟩
              rw [ek]
              exact rk_sure kp _ ht
          · rintro H3 ⟨s3, hM3⟩
            rw [List.take_length] at hM3
            refine ⟨M2, C.map fun _ => true, rfl, SqL.of (by rw [List.map_map]; exact hM3), ?_⟩
            rw [all_true]
            exact q _ (s2.trans s3)
end
end Mt
namespace Mt
open PySem PySem.Spec PyProof.Rows L2
def spIsBool : Sp := fun vs H Q _ => ∃ a b : Bool, vs = [.bl a, .bl b] ∧ Q (.bl (a == b)) H
def spBlocks (K : PySem.W.Frag) : Sp := fun vs H Q _ => ∃ (v : V) (bl : List (List Int)), vs = [v] ∧ Dp K H v (.tuple (bl.map dI)) ∧ bl.length ≤ 1000 ∧ (∀ w ∈ bl, w.length ≤ 100) ∧ ∀ H', Same H H' → Q (.bl true) H'
def spEnd (K : PySem.W.Frag) : Sp := fun vs H Q _ => ∃ (vc vb : V) (s : Nat) (z : Str) (base : Int) (C : Chn) (l : List Br), vs = [vc, .int s, vb, .str z] ∧ Dp K H vc (dChn base C) ∧ ChnOk base C ∧ s < C.length ∧ Fol C s l ∧ (∀ b ∈ l, z ∉ b.2.1) ∧ l.length ≤ 1000 ∧ Dp K H vb (.tuple (l.map fun b => dI b.1)) ∧
  ∀ H', Same H H' → Q (.int (stA s l : Nat)) H'
def fitE (z : Str) (w : List Int) (x : Br) : Bool := decide (x.1 = w) && !decide (z ∈ x.2.1)
theorem uniq_e {r : List Br} {b : Br} {z : Str} (h : (r.map (·.1)).Pairwise NP) (hb : b ∈ r) (hz : z ∉ b.2.1) : r.filter (fitE z b.1) = [b] := by
  have e : r.filter (fitE z b.1) = (r.filter fun x => decide (x.1 = b.1)).filter fun x => !decide (z ∈ x.2.1) := by
    rw [List.filter_filter]
    refine List.filter_congr fun x _ => ?_
    unfold fitE
    rw [Bool.and_comm]
  rw [e, uniq_br h hb, List.filter_cons_of_pos (by simpa using hz), List.filter_nil]
section
variable {P : Program} {w : World} {K : PySem.W.Frag} {mg : Str → Option Value} {base : Heap}
theorem ok__law_is_bool (T : Txt K mg) {f : Addr} {fd : FuncData} (F : FnP K "_law_is_bool" s__law_is_bool f fd) : FnOk P w K mg base CX0 1 f fd ["told", "due"] spIsBool := by
  refine F.ok sc__law_is_bool (fun vs H Q E h => ?_) (fun cdv A outer s H vs Q E hr h => ?_)
  · obtain ⟨a, b, rfl, _⟩ := h
    rfl
  · obtain ⟨a, b, rfl, q⟩ := h
    refine ⟨_, PSs.nox (pss_one (ps_ret (pe_and (pe_callB call_isi (by rfl) T.b_isinstance (by decide +kernel) (pa_cons (pv 0) (pa_cons (pe_bltn (v := .ty "bool") (u := .type "bool") (by rfl) T.b_bool (by decide +kernel) rfl) pa_nil))) (pe_one (pe_cmpR op_eq (pv 0) (pv 1) (nomark _)))))), ?_⟩
    refine ⟨_, rfl, _, .ty "bool", .type "bool", .type "bool", true, rfl, .ty _, .base (.bl _), kit_ty (by decide +kernel), true, rfl, ite2 (fun _ => ?_) (fun h => absurd rfl h)⟩
    refine ⟨_, rfl, _, rfl, rfl, ?_⟩
    rw [dec_bl]
    exact q
theorem ok__law_is_blocks (T : Txt K mg) (D__law_is_ints : Kept P w K mg base 2 "_law_is_ints" ["row"] (spIsInts K)) {f : Addr} {fd : FuncData} (F : FnP K "_law_is_blocks" s__law_is_blocks f fd) : FnOk P w K mg base CX0 3 f fd ["row"] (spBlocks K) := by
  refine F.ok sc__law_is_blocks (fun vs H Q E h => ?_) (fun cdv A outer s H vs Q E hr h => ?_)
  · obtain ⟨v, bl, rfl, _⟩ := h
    rfl
  · obtain ⟨v, bl, rfl, hv, hl, hw, q⟩ := h
    refine ⟨_, PSs.nox (pss_one (ps_ret (pe_and (pe_callB call_isi (by rfl) T.b_isinstance (by decide +kernel) (pa_cons (pv 0) (pa_cons (pe_bltn (v := .ty "tuple") (u := .type "tuple") (by rfl) T.b_tuple (by decide +kernel) rfl) pa_nil))) (pe_one (pe_callB (cr_all rfl) (by rfl) T.b_all (by decide +kernel) (pa_cons (pe_lc (own := [("block", 1)]) (g := (gName 1)) (tt := tYes) rfl sc__law_is_blocks.nd (pi_tup (pv 0)) (blkOk_by (N := N__law_is_blocks) (sc := defScope s__law_is_blocks) (by decide +kernel)) (fun _ _ _ _ _ => (pg_name (i := 1) sc__law_is_blocks.nd rfl (Or.inl rfl))) (fun _ _ _ _ _ => pts_nil) (fun _ _ _ _ _ => (pe_d D__law_is_ints (hr.mono (by decide)) (by rfl) (pa_cons (pv 1) pa_nil)))) pa_nil)))))), ?_⟩
    obtain ⟨p, xs, rfl, hp, hA⟩ := dp_tup hv
    have xl := dpA_len hA
    rw [List.length_map] at xl
    refine ⟨_, rfl, _, .ty "tuple", .type "tuple", .type "tuple", true, rfl, .ty _, sqt_ty hp, kit_ty (by decide +kernel), true, rfl, ite2 (fun _ => ?_) (fun h => absurd rfl h)⟩
    refine ⟨_, rfl, p, rfl, ⟨_, hp⟩, fun M hM => lc_tup (K := K) (a := p) (xs := xs) (fun j H' => Same H H' ∧ H' M = some (.lst ((bl.take j).map fun _ => .bl true))) ⟨same_new hM, upd_same⟩ (fun j H' _ e => same_t e.1 hp) ?_ ?_⟩
    · rintro j y H2 hj ⟨s2, hM2⟩
      obtain ⟨wd, hwd, hy⟩ := dpA_mem (dpA_same s2 _ _ hA) hj
      obtain ⟨p1, rfl, hp1⟩ := i_at hy
      have jl := (List.getElem?_eq_some_iff.mp hwd).1
      refine ⟨rfl, _, rfl, p1, wd, rfl, hp1, hw wd (List.mem_of_getElem? hwd), fun H3 s3 => ⟨_, s3 _ _ hM2, by rw [List.length_map, List.length_take]; exact line6 (by omega), same_mut (s2.trans s3) hM, ?_⟩⟩
      rw [upd_same, take_map_succ (f := fun _ : List Int => V.bl true) hwd]
    · rintro H2 ⟨s2, hM2⟩
      rw [xl, List.take_length] at hM2
      refine ⟨M, bl.map fun _ => true, rfl, SqL.of (by rw [List.map_map]; exact hM2), ?_⟩
      rw [all_true]
      exact q _ s2
theorem ok__law_end (T : Txt K mg) {f : Addr} {fd : FuncData} (F : FnP K "_law_end" s__law_end f fd) : FnOk P w K mg base CX0 1 f fd ["chain", "start", "blocks", "mark"] (spEnd K) := by
  refine F.ok sc__law_end (fun vs H Q E h => ?_) (fun cdv A outer s H vs Q E hr h => ?_)
  · obtain ⟨vc, vb, s, z, b, C, l, rfl, _⟩ := h
    rfl
  · obtain ⟨vc, vb, s0, z, b, C, l, rfl, hC, ok, hs, fol, hsil, hl, hb, q⟩ := h
    refine ⟨_, PSs.nox (pss_cons (ps_set (i := 4) sc__law_end.nd rfl (Or.inl rfl) (pv 1))
      (pss_cons (ps_for PassesOwn.never rfl (pi_tup (pv 2)) (pg_name (i := 5) sc__law_end.nd rfl (Or.inr rfl)) (pss_cons (ps_setLc (i := 6) (own := [("branch", 7)]) (g := (gName 7)) rfl sc__law_end.nd rfl rfl (sw_true rfl rfl rfl (by decide +kernel)) (pi_tup (pe_ix ix_tup (pe_ix ix_tup (pv 0) pe_int (fun _ _ => rfl)) (pv 4) (fun _ _ => rfl))) (blkOk_by (N := N__law_end) (sc := defScope s__law_end) (by decide +kernel)) (fun _ _ _ _ _ => (pg_name (i := 7) sc__law_end.nd rfl (Or.inl rfl))) (fun _ _ _ _ _ => (pts_one (PW.pt (pw_and (pt_cmpR (eqDK (K := K) rfl (hr.units)) (pe_ix (ixT (K := K) rfl) (pv 7) pe_int (fun _ _ => rfl)) (pv 5) (nomark _)) (pw_and1 (pt_cmpR (ninK (K := K) rfl) (pv 3) (pe_ix (ixT (K := K) rfl) (pv 7) pe_int (fun _ _ => rfl)) (by rfl))))))) (fun _ _ _ _ _ => (pv 7)))
      (pss_cons (ps_if (pt_cmpR op_eq (pe_callB call_len (by rfl) T.b_len (by decide +kernel) (pa_cons (pv 6) pa_nil)) pe_int (nomark _)) (pss_one (ps_ret pe_non)) pss_nil)
      (pss_one (ps_set (i := 4) sc__law_end.nd rfl (Or.inl rfl) (pe_ix ix_tup (pe_ix ix_list (pv 6) pe_int (fun _ _ => rfl)) pe_int (fun _ _ => rfl)))))))
      (pss_one (ps_ret (pv 4))))), ?_⟩
    obtain ⟨pc, pq, xs, rfl, hpc, hpq, hA⟩ := chn_at hC
    obtain ⟨pB, ys, rfl, hpB, hB⟩ := dp_tup hb
    have yl := dpA_len hB
    rw [List.length_map] at yl
    refine ⟨_, rfl, _, rfl, pB, rfl, ⟨_, hpB⟩, for_tup (K := K) (a := pB) (xs := ys) (fun i σ H' => ∃ (y5 y6 : Option V), σ = [some (.ref pc), some (.int (s0 : Nat)), some (.ref pB), some (.str z), some (.int (stA s0 (l.take i) : Nat)), y5, y6, none] ∧ Same H H' ∧ stA s0 (l.take i) < C.length) ⟨_, _, rfl, Same.refl _, hs⟩ (fun i σ H' _ ⟨_, _, _, s, _⟩ => same_t s hpB) ?_ ?_⟩
    · rintro i y σ H2 hi ⟨y5, y6, rfl, s2, hst⟩
      obtain ⟨br, hbr, hy⟩ := dpA_mem hB hi
      have hin := fol i br hbr
      obtain ⟨xr, hxr, hdr⟩ := dpA_get hA (rowOf_at hst)
      have okr := ok.row _ (List.mem_of_getElem? (rowOf_at hst))
      generalize stA s0 (l.take i) = t at hin hxr hdr okr hst
      obtain ⟨pr, rs, rfl, hpr, hrs⟩ := dp_tup hdr
      have rl := dpA_len hrs
      rw [List.length_map] at rl
      have few := okr.few
      have un := uniq_e okr.cm.pf hin (hsil br (List.mem_of_getElem? hbr))
      refine ⟨_, rfl, pc, _, _, _, rfl, rfl, same_t s2 hpc, atI_nat (j := 2) rfl, _, rfl, pq, _, _, _, rfl, rfl, same_t s2 hpq, atI_nat hxr, pr, rfl, ⟨_, same_t s2 hpr⟩, fun M hM => lc_tup (K := K) (a := pr) (xs := rs) (fun k H' => Same H2 H' ∧ ∃ us : List V, H' M = some (.lst us) ∧ DpAll K H' us ((((rowOf C t).take k).filter (fitE z br.1)).map dBr)) ⟨same_new hM, [], upd_same, .nil⟩ (fun k H' _ e => same_t (s2.trans e.1) hpr) ?_ ?_⟩
      · rintro k x H3 hk ⟨s3, us, hM3, hus⟩
        obtain ⟨bx, hbx, hx⟩ := dpA_mem (dpA_same (s2.trans s3) _ _ hrs) hk
        have hx' := hx
        obtain ⟨px, x0, x1, rfl, hpx, hd0, hd1⟩ := br_at hx
        obtain ⟨p1, rfl, hp1⟩ := sh_at hd1
        have ul := dpA_len hus
        rw [List.length_map] at ul
        have fl := List.length_filter_le (fitE z br.1) ((rowOf C t).take k)
        rw [List.length_take] at fl
        have ft : ((rowOf C t).take (k + 1)).filter (fitE z br.1) = ((rowOf C t).take k).filter (fitE z br.1) ++ [bx].filter (fitE z br.1) := by
          rw [take_snoc hbx, List.filter_append]
        have skip : ¬ fitE z br.1 bx = true → Same H2 H3 ∧ ∃ us : List V, H3 M = some (.lst us) ∧ DpAll K H3 us ((((rowOf C t).take (k + 1)).filter (fitE z br.1)).map dBr) := fun h => by
          refine ⟨s3, us, hM3, ?_⟩
          rw [ft, List.filter_cons_of_neg h, List.filter_nil, List.append_nil]
          exact hus
        refine ⟨rfl, _, rfl, px, _, _, _, rfl, rfl, hpx, atI_nat (j := 0) rfl, _, rfl, dI bx.1, dI br.1, hd0, dp_same (s2.trans s3) _ _ hy, dI_sh _, dI_sh _, _, rfl, ?_⟩
        rw [eqv_I]
        refine ite2 (fun h1 => ?_) (fun h1 => skip fun f => ?_)
        · refine ⟨_, rfl, _, rfl, px, _, _, _, rfl, rfl, hpx, atI_nat (j := 1) rfl, p1, _, rfl, .inr hp1, rfl, flat_strs _, ?_⟩
          rw [inV_str]
          refine ⟨_, rfl, ite2 (fun h2 => ?_) (fun h2 => skip fun f => ?_)⟩
          · have fz : fitE z br.1 bx = true := by
              unfold fitE
              rw [Bool.and_eq_true]
              exact ⟨h1, h2⟩
            refine ⟨_, rfl, us, hM3, line6 (by omega), same_mut s3 hM, us ++ [.ref px], upd_same, ?_⟩
            have kM := keepT_nt (o := .lst (us ++ [.ref px])) (nt_lst _) hM3
            rw [ft, List.filter_cons_of_pos fz, List.filter_nil, List.map_append]
            exact dpA_snoc (dpA_keep kM _ _ (noLs_br _) hus) (dp_keep kM _ _ (dBr_noL _) hx')
          · unfold fitE at f
            rw [Bool.and_eq_true] at f
            exact h2 f.2
        · unfold fitE at f
          rw [Bool.and_eq_true] at f
          exact h1 f.1
      · rintro H3 ⟨s3, us, hM3, hus⟩
        rw [rl, List.take_length, un] at hus
        obtain ⟨x0, r0, rfl, hx0, hr0⟩ := dpA_cons hus
        cases dpA_nil hr0
        obtain ⟨px, z0, z1, rfl, hpx, hd0, hd1⟩ := br_at hx0
        have es := stA_snoc s0 (l.take i) br
        rw [← take_snoc hbr] at es
        refine ⟨_, rfl, _, _, rfl, .inl ⟨_, SqL.of hM3, rfl⟩, rfl, _, rfl, ite2 (fun h => absurd h (by show ¬ decide (V.int ((1 : Nat) : Int) = V.int 0) = true; decide)) (fun _ => ?_)⟩
        refine ⟨_, rfl, M, _, _, _, rfl, rfl, SqL.of hM3, atI_nat (j := 0) rfl, px, _, _, _, rfl, rfl, hpx, atI_nat (j := 2) rfl, ?_⟩
        rw [es]
        exact ⟨_, _, rfl, s2.trans s3, (okr.to br hin).1⟩
    · rintro σ H2 ⟨y5, y6, rfl, s2, hst⟩
      rw [yl, List.take_length]
      exact ⟨_, rfl, q _ s2⟩
end
end Mt
namespace Mt
open PySem PySem.Spec PyProof.Rows L2
theorem stA_append (s : Nat) (l m : List Br) : stA s (l ++ m) = stA (stA s l) m := by
  cases h : m.getLast? with
  | none =>
    have : m = [] := List.getLast?_eq_none_iff.mp h
    subst this
    rw [List.append_nil]
    rfl
  | some b =>
    unfold stA
    rw [List.getLast?_append, h]
    rfl
theorem Fol.append {C : Chn} {s : Nat} {l m : List Br} (h1 : Fol C s l) (h2 : Fol C (stA s l) m) : Fol C s (l ++ m) := fun i b hb => by
  by_cases k : i < l.length
  · rw [List.getElem?_append_left k] at hb
    rw [List.take_append_of_le_length (by omega)]
    exact h1 i b hb
  · rw [List.getElem?_append_right (by omega)] at hb
    have := h2 (i - l.length) b hb
    rw [List.take_append, List.take_of_length_le (by omega), stA_append]
    exact this
theorem Fol.take {C : Chn} {s : Nat} {l : List Br} (h : Fol C s l) (n : Nat) : Fol C s (l.take n) := fun i b hb => by
  rw [List.getElem?_take] at hb
  split at hb
  · rename_i k
    rw [List.take_take, Nat.min_eq_left (by omega)]
    exact h i b hb
  · cases hb
theorem fol_lt {base : Int} {C : Chn} (ok : ChnOk base C) {s : Nat} (hs : s < C.length) {l : List Br} (h : Fol C s l) : ∀ i, i ≤ l.length → stA s (l.take i) < C.length
  | 0, _ => hs
  | i + 1, hi => by
    have ih := fol_lt ok hs h i (by omega)
    have hb : l[i]? = some (l[i]'(by omega)) := List.getElem?_eq_getElem _
    rw [take_snoc hb, stA_snoc]
    exact ((ok.row _ (List.mem_of_getElem? (rowOf_at ih))).to _ (h i _ hb)).1
theorem next_fol {r : List Br} {b : Br} (p : (r.map (·.1)).Pairwise NP) (hb : b ∈ r) (t : List Int) : nextB r (b.1 ++ t) = some b := by
  unfold nextB
  induction r with
  | nil => exact absurd hb List.not_mem_nil
  | cons a q ih =>
    obtain ⟨h1, h2⟩ := List.pairwise_cons.mp p
    have fb : fits (b.1 ++ t) b = true := fits_pre.mpr (List.prefix_append _ _)
    rcases List.mem_cons.mp hb with rfl | hb
    · rw [List.find?_cons_of_pos fb]
    · have na : ¬ fits (b.1 ++ t) a = true := fun f => by
        have f1 := fits_pre.mp f
        have f2 := fits_pre.mp fb
        have np := h1 b.1 (List.mem_map.mpr ⟨b, hb, rfl⟩)
        rcases List.prefix_or_prefix_of_prefix f1 f2 with k | k
        · exact np.1 k
        · exact np.2 k
      rw [List.find?_cons_of_neg na]
      exact ih h2 hb
def flatD (l : List Br) : List Int := l.flatMap (·.1)
theorem flatD_append (l m : List Br) : flatD (l ++ m) = flatD l ++ flatD m := by
  unfold flatD
  rw [List.flatMap_append]
/-- a tape that is put together from the words of a way is walked along it -/
theorem wk_fol {base : Int} {C : Chn} (ok : ChnOk base C) {l : List Br} (h : Fol C 0 l) (e : List Int) : ∀ i, i ≤ l.length → wk C (flatD l ++ e) i = some ((l.take i).map (·.2.1), stA 0 (l.take i), (flatD (l.take i)).length)
  | 0, _ => rfl
  | i + 1, hi => by
    have ih := wk_fol ok h e i (by omega)
    have hb : l[i]? = some (l[i]'(by omega)) := List.getElem?_eq_getElem _
    generalize l[i]'(by omega) = b at hb
    have lt := fol_lt ok ok.pos h i (by omega)
    have okr := ok.row _ (List.mem_of_getElem? (rowOf_at lt))
    have ed : (flatD l ++ e).drop (flatD (l.take i)).length = b.1 ++ (flatD (l.drop (i + 1)) ++ e) := by
      have e1 : l = l.take i ++ ([b] ++ l.drop (i + 1)) := by
        have : l.drop i = [b] ++ l.drop (i + 1) := by
          have il := (List.getElem?_eq_some_iff.mp hb).1
          rw [List.drop_eq_getElem_cons il]
          rw [List.getElem?_eq_getElem il] at hb
          rw [Option.some.inj hb]
          rfl
        rw [← this, List.take_append_drop]
      have e2 : flatD l = flatD (l.take i) ++ (b.1 ++ flatD (l.drop (i + 1))) := by
        conv => lhs; rw [e1]
        rw [flatD_append, flatD_append]
        show _ ++ ((b.1 ++ []) ++ _) = _
        rw [List.append_nil]
      rw [e2, List.append_assoc, List.drop_left, List.append_assoc]
    show (wk C (flatD l ++ e) i).bind _ = _
    rw [ih]
    show (nextB (rowOf C (stA 0 (l.take i))) ((flatD l ++ e).drop (flatD (l.take i)).length)).map _ = _
    rw [ed, next_fol okr.cm.pf (h i b hb)]
    rw [take_snoc hb, stA_snoc, flatD_append, List.map_append, List.length_append]
    show some (_, _, _ + b.1.length) = some (_, _, _ + (b.1 ++ []).length)
    rw [List.append_nil]
    rfl
/-! ### the silent way on and on -/
def pk (C : Chn) (z : Str) (s : Nat) : Br := ((sl z (rowOf C s)).find? fun b => decide (ga (rk (nx C z)) b.2.2 = 0)).getD ([], [], 0)
structure Rank0 (C : Chn) (z : Str) (s : Nat) : Prop where
  lt : s < C.length
  r0 : ga (rk (nx C z)) s = 0
theorem pk_ok {base : Int} {C : Chn} (ok : ChnOk base C) {z : Str} {s : Nat} (h : Rank0 C z s) : (sl z (rowOf C s)).find? (fun b => decide (ga (rk (nx C z)) b.2.2 = 0)) = some (pk C z s) ∧ pk C z s ∈ rowOf C s ∧ z ∉ (pk C z s).2.1 ∧ Rank0 C z (pk C z s).2.2 := by
  have nl : (nx C z).length = C.length := by
    unfold nx
    rw [List.length_map]
  obtain ⟨t, ht, h0⟩ := rk_on (N := nx C z) (by rw [nl]; exact h.lt) h.r0
  rw [tgs_nx] at ht
  obtain ⟨b, hb, rfl⟩ := List.mem_map.mp ht
  have hs : ((sl z (rowOf C s)).find? fun b => decide (ga (rk (nx C z)) b.2.2 = 0)).isSome = true := List.find?_isSome.mpr ⟨b, hb, decide_eq_true h0⟩
  obtain ⟨x, hx⟩ := Option.isSome_iff_exists.mp hs
  have ex : pk C z s = x := by
    unfold pk
    rw [hx]
    rfl
  rw [ex]
  have m := List.mem_of_find?_eq_some hx
  obtain ⟨m1, m2⟩ := List.mem_filter.mp m
  refine ⟨hx, m1, by simpa using m2, ((ok.row _ (List.mem_of_getElem? (rowOf_at h.lt))).to x m1).1, of_decide_eq_true (List.find?_some (p := fun b : Br => decide (ga (rk (nx C z)) b.2.2 = 0)) hx)⟩
def stS (C : Chn) (z : Str) : Nat → Nat
  | 0 => 0
  | k + 1 => (pk C z (stS C z k)).2.2
def seg (C : Chn) (z : Str) (a n : Nat) : List Br := (List.range n).map fun i => pk C z (stS C z (a + i))
theorem stS_ok {base : Int} {C : Chn} (ok : ChnOk base C) {z : Str} (h : ga (rk (nx C z)) 0 = 0) : ∀ k, Rank0 C z (stS C z k)
  | 0 => ⟨ok.pos, h⟩
  | k + 1 => (pk_ok ok (stS_ok ok h k)).2.2.2
theorem seg_len (C : Chn) (z : Str) (a n : Nat) : (seg C z a n).length = n := by
  unfold seg
  rw [List.length_map, List.length_range]
theorem seg_succ (C : Chn) (z : Str) (a n : Nat) : seg C z a (n + 1) = seg C z a n ++ [pk C z (stS C z (a + n))] := by
  unfold seg
  rw [List.range_succ, List.map_append]
  rfl
theorem seg_st (C : Chn) (z : Str) (a : Nat) : ∀ n, stA (stS C z a) (seg C z a n) = stS C z (a + n)
  | 0 => rfl
  | n + 1 => by
    rw [seg_succ, stA_snoc]
    rfl
theorem seg_take (C : Chn) (z : Str) (a n i : Nat) (h : i ≤ n) : (seg C z a n).take i = seg C z a i := by
  unfold seg
  rw [← List.map_take, List.take_range, Nat.min_eq_left h]
theorem seg_fol {base : Int} {C : Chn} (ok : ChnOk base C) {z : Str} (h : ga (rk (nx C z)) 0 = 0) (a n : Nat) : Fol C (stS C z a) (seg C z a n) := fun i b hb => by
  have il := (List.getElem?_eq_some_iff.mp hb).1
  rw [seg_len] at il
  rw [seg_take C z a n i (by omega), seg_st]
  unfold seg at hb
  rw [List.getElem?_map, List.getElem?_range il] at hb
  obtain rfl := Option.some.inj hb
  exact (pk_ok ok (stS_ok ok h (a + i))).2.1
theorem seg_sil {base : Int} {C : Chn} (ok : ChnOk base C) {z : Str} (h : ga (rk (nx C z)) 0 = 0) (a n : Nat) : ∀ b ∈ seg C z a n, z ∉ b.2.1 := fun b hb => by
  obtain ⟨i, _, rfl⟩ := List.mem_map.mp hb
  exact (pk_ok ok (stS_ok ok h (a + i))).2.2.1
end Mt
namespace Mt
open PySem PySem.Spec PyProof.Rows L2
theorem nodup_le : ∀ (n : Nat) {l : List Nat}, l.Nodup → (∀ x ∈ l, x < n) → l.length ≤ n
  | 0, l, _, h => by
    cases l with
    | nil => exact Nat.le_refl _
    | cons x r => exact absurd (h x List.mem_cons_self) (Nat.not_lt_zero x)
  | n + 1, l, nd, h => by
    have h2 := nodup_le n (l := l.erase n) (nd.erase n) fun x hx => by
      have h3 := h x (List.mem_of_mem_erase hx)
      have : x ≠ n := fun e => by
        subst e
        exact (List.Nodup.not_mem_erase nd) hx
      omega
    by_cases k : n ∈ l
    · rw [List.length_erase_of_mem k] at h2
      omega
    · rw [List.erase_of_not_mem k] at h2
      omega
/-- the place of each state so far -/
def plc (C : Chn) (z : Str) (k : Nat) : List (L2.Key × V) := (List.range k).map fun i => (.inl ((stS C z i : Nat) : Int), .int (i : Int))
theorem plc_none {C : Chn} {z : Str} {k s : Nat} (h : ∀ i, i < k → stS C z i ≠ s) : valV (plc C z k) (.inl (s : Int)) = none := by
  unfold valV plc
  rw [List.find?_map]
  have : (List.range k).find? ((fun kv : L2.Key × V => decide (kv.1 = .inl (s : Int))) ∘ fun i => ((.inl ((stS C z i : Nat) : Int) : L2.Key), V.int (i : Int))) = none := List.find?_eq_none.mpr fun i hi e => by
    have e := of_decide_eq_true e
    have : ((stS C z i : Nat) : Int) = s := Sum.inl.inj e
    exact h i (List.mem_range.mp hi) (by omega)
  rw [this]
  rfl
theorem plc_some {C : Chn} {z : Str} {k j : Nat} (hj : j < k) (h : ∀ i, i < k → stS C z i = stS C z j → i = j) : valV (plc C z k) (.inl ((stS C z j : Nat) : Int)) = some (.int (j : Int)) := by
  unfold valV plc
  rw [List.find?_map]
  have : (List.range k).find? ((fun kv : L2.Key × V => decide (kv.1 = .inl ((stS C z j : Nat) : Int))) ∘ fun i => ((.inl ((stS C z i : Nat) : Int) : L2.Key), V.int (i : Int))) = some j := by
    have ex : ((List.range k).find? ((fun kv : L2.Key × V => decide (kv.1 = .inl ((stS C z j : Nat) : Int))) ∘ fun i => ((.inl ((stS C z i : Nat) : Int) : L2.Key), V.int (i : Int)))).isSome = true := List.find?_isSome.mpr ⟨j, List.mem_range.mpr hj, decide_eq_true rfl⟩
    obtain ⟨x, hx⟩ := Option.isSome_iff_exists.mp ex
    rw [hx]
    have e0 := List.find?_some hx
    have e : (.inl ((stS C z x : Nat) : Int) : L2.Key) = .inl ((stS C z j : Nat) : Int) := of_decide_eq_true e0
    have e2 : ((stS C z x : Nat) : Int) = stS C z j := Sum.inl.inj e
    have xk := List.mem_range.mp (List.mem_of_find?_eq_some hx)
    rw [h x xk (by omega)]
  rw [this]
  rfl
theorem plc_put {C : Chn} {z : Str} {k : Nat} (h : ∀ i, i < k → stS C z i ≠ stS C z k) : putK (plc C z k) (.inl ((stS C z k : Nat) : Int)) (.int (k : Int)) = plc C z (k + 1) := by
  have an : ¬ ((plc C z k).any fun kv => decide (kv.1 = (.inl ((stS C z k : Nat) : Int) : L2.Key))) = true := fun e => by
    obtain ⟨kv, hkv, e⟩ := List.any_eq_true.mp e
    obtain ⟨i, hi, rfl⟩ := List.mem_map.mp hkv
    have e := of_decide_eq_true e
    have : ((stS C z i : Nat) : Int) = stS C z k := Sum.inl.inj e
    exact h i (List.mem_range.mp hi) (by omega)
  unfold putK
  rw [if_neg an]
  unfold plc
  rw [List.range_succ, List.map_append]
  rfl
def dWd (l : List Br) : PyData := .tuple (l.map fun b => dI b.1)
def spRing (K : PySem.W.Frag) : Sp := fun vs H Q _ => ∃ (d : Addr) (base : Int) (C : Chn) (z : Str) (kvs : List (L2.Key × V)), vs = [.ref d, .int 0] ∧ ChnOk base C ∧ ga (rk (nx C z)) 0 = 0 ∧ H d = some (.dK kvs) ∧ (∀ s, Rank0 C z s → ∃ v, valV kvs (.inl (s : Int)) = some v ∧ Dp K H v (dBr (pk C z s))) ∧
  ∀ H' v a r, Same H H' → 0 < r → a + r ≤ C.length → stS C z (a + r) = stS C z a → (∀ i j, i < a + r → j < a + r → stS C z i = stS C z j → i = j) → Dp K H' v (.tuple [dWd (seg C z 0 a), dWd (seg C z a r)]) → Q v H'
theorem seg_drop (C : Chn) (z : Str) (k j : Nat) (h : j ≤ k) : (seg C z 0 k).drop j = seg C z j (k - j) := by
  apply List.ext_getElem?
  intro i
  unfold seg
  rw [List.getElem?_drop, List.getElem?_map, List.getElem?_map]
  by_cases e : j + i < k
  · rw [List.getElem?_range e, List.getElem?_range (by omega)]
    show some (pk C z (stS C z (0 + (j + i)))) = some (pk C z (stS C z (j + i)))
    rw [Nat.zero_add]
  · rw [List.getElem?_eq_none (by rw [List.length_range]; omega), List.getElem?_eq_none (by rw [List.length_range]; omega)]
    rfl
theorem cutL_to {xs : List V} {k : Nat} (h : k ≤ xs.length) : cutV xs none (some (k : Int)) = xs.take k := cut_to h
section
variable {P : Program} {w : World} {K : PySem.W.Frag} {mg : Str → Option Value} {base : Heap}
theorem ok_ring_of (T : Txt K mg) {f : Addr} {fd : FuncData} (F : FnP K "ring_of" s_ring_of f fd) : FnOk P w K mg base CX0 1 f fd ["picked", "state"] (spRing K) := by
  refine F.ok sc_ring_of (fun vs H Q E h => ?_) (fun cdv A outer s H vs Q E h9 h => ?_)
  · obtain ⟨d, b, C, z, kvs, rfl, _⟩ := h
    rfl
  · have hr := h9
    obtain ⟨d, b, C, z, kvs, rfl, ok, h0, hd, hp, q⟩ := h
    refine ⟨_, PSs.nox (pss_cons (ps_set (i := 2) sc_ring_of.nd rfl (Or.inl rfl) pe_dnewK)
      (pss_cons (ps_set (i := 3) sc_ring_of.nd rfl (Or.inl rfl) (pe_lst pa_nil))
      (pss_cons (ps_while PassesOwn.never (pt_cmp (pc_dnotin (hu_of hr) (pv 1) (pv 2))) (pss_cons (ps_asg (pe_callB call_len (by rfl) T.b_len (by decide +kernel) (pa_cons (pv 3) pa_nil)) (pg_sub (pv 2) (pv 1) (set_dict (hu_of hr))))
      (pss_cons (ps_asg (pe_dget (hu_of hr) (pv 0) (pv 1) (fun _ _ => rfl)) (pg_tup rfl (pgs_cons (pg_name (i := 4) sc_ring_of.nd rfl (Or.inl rfl)) (pgs_cons (pg_name (i := 5) sc_ring_of.nd rfl (Or.inl rfl)) (pgs_cons (pg_name (i := 1) sc_ring_of.nd rfl (Or.inl rfl)) pgs_nil)))))
      (pss_one (ps_expr (pe_bm PySem.F.plainAttrs_list PySem.F.slot_list_append PySem.F.type_list_append mt_append (pv 3) (pa_cons (pv 4) pa_nil)))))))
      (pss_cons (ps_set (i := 6) sc_ring_of.nd rfl (Or.inl rfl) (pe_dget (hu_of hr) (pv 2) (pv 1) (fun _ _ => rfl)))
      (pss_one (ps_ret (pe_tup (pa_cons (pe_callTy call_tuple_of (by rfl) T.b_tuple (by decide +kernel) (pa_cons (pe_slice sl_list (pv 3) po_none (po_some (pv 6))) pa_nil)) (pa_cons (pe_callTy call_tuple_of (by rfl) T.b_tuple (by decide +kernel) (pa_cons (pe_slice sl_list (pv 3) (po_some (pv 6)) po_none) pa_nil)) pa_nil))))))))), ?_⟩
    refine fun pl hpl => ?_
    have s1 := same_new (o := .dK []) hpl
    have hpl1 := upd_same (H := H) (a := pl) (o := .dK [])
    generalize upd H pl (.dK []) = H1 at s1 hpl1
    refine ⟨Nat.zero_le _, fun L hL => ?_⟩
    have s2 := s1.trans (same_new (o := .lst []) hL)
    have hL2 := upd_same (H := H1) (a := L) (o := .lst [])
    have hpl2 := same_new (o := .lst []) hL _ _ hpl1
    have plL : pl ≠ L := ne_of_none hpl1 hL
    have hL0 : H L = none := by
      cases e : H L with
      | none => rfl
      | some o =>
        rw [s1 _ _ e] at hL
        cases hL
    generalize upd H1 L (.lst []) = H2 at s2 hL2 hpl2
    have few : ∀ k, (∀ i j, i < k → j < k → stS C z i = stS C z j → i = j) → k ≤ C.length := fun k hd => by
      have := nodup_le C.length (l := (List.range k).map (stS C z)) ?_ fun x hx => ?_
      · rw [List.length_map, List.length_range] at this
        exact this
      · refine List.pairwise_map.mpr ?_
        refine (List.pairwise_lt_range (n := k)).imp_of_mem fun {a b} ha hb hab e => ?_
        have := hd a b (List.mem_range.mp ha) (List.mem_range.mp hb) e
        omega
      · obtain ⟨i, _, rfl⟩ := List.mem_map.mp hx
        exact (stS_ok ok h0 i).lt
    refine ⟨fun m σ H' => ∃ (k : Nat) (y4 y5 : Option V) (zs : List V), m = C.length + 1 - k ∧ σ = [some (.ref d), some (.int (stS C z k : Nat)), some (.ref pl), some (.ref L), y4, y5, none] ∧ Same H H' ∧ H' pl = some (.dK (plc C z k)) ∧ H' L = some (.lst zs) ∧ DpAll K H' zs ((seg C z 0 k).map fun b => dI b.1) ∧ ∀ i j, i < k → j < k → stS C z i = stS C z j → i = j, ⟨_, 0, _, _, [], rfl, rfl, s2, hpl2, hL2, .nil, fun i j hi => absurd hi (Nat.not_lt_zero i)⟩, ?_⟩
    rintro m σ H3 ⟨k, y4, y5, zs, rfl, rfl, s3, hpl3, hL3, hzs, dist⟩
    have kf := few k dist
    have zl := dpA_len hzs
    rw [List.length_map, seg_len] at zl
    refine ⟨_, rfl, _, rfl, pl, valV (plc C z k) (.inl ((stS C z k : Nat) : Int)), rfl, DGet.k (k := .inl ((stS C z k : Nat) : Int)) hpl3, _, rfl, ?_⟩
    by_cases hin : ∃ j, j < k ∧ stS C z j = stS C z k
    · obtain ⟨j, hj, ej⟩ := hin
      have hv := plc_some (C := C) (z := z) hj fun i hi e => dist i j hi hj e
      rw [ej] at hv
      rw [hv]
      refine ite2 (fun h => (nomatch (show false = true from h))) (fun _ => ?_)
      refine ⟨_, rfl, _, rfl, pl, _, rfl, by rw [← hv]; exact DGet.k (k := .inl ((stS C z k : Nat) : Int)) hpl3, ?_⟩
      refine ⟨_, rfl, _, rfl, _, rfl, L, zs, rfl, SqL.of hL3, fun p1 hp1 => ?_⟩
      rw [cut_to (by omega)]
      have u1 := same_new (o := .lst (zs.take j)) hp1
      have a1 := upd_same (H := H3) (a := p1) (o := .lst (zs.take j))
      generalize upd H3 p1 (.lst (zs.take j)) = H4 at u1 a1
      refine ⟨p1, _, rfl, .inl ⟨SqL.of a1, fun p2 hp2 => ?_⟩⟩
      have u2 := u1.trans (same_new (o := .tup (zs.take j)) hp2)
      have a2 := upd_same (H := H4) (a := p2) (o := .tup (zs.take j))
      generalize upd H4 p2 (.tup (zs.take j)) = H5 at u2 a2
      refine ⟨_, rfl, _, rfl, _, rfl, L, zs, rfl, SqL.of (u2 _ _ hL3), fun p3 hp3 => ?_⟩
      rw [cut_from (by omega)]
      have u3 := same_new (o := .lst (zs.drop j)) hp3
      have a3 := upd_same (H := H5) (a := p3) (o := .lst (zs.drop j))
      have a23 := u3 _ _ a2
      generalize upd H5 p3 (.lst (zs.drop j)) = H6 at u3 a3 a23
      refine ⟨p3, _, rfl, .inl ⟨SqL.of a3, fun p4 hp4 => ⟨by show 2 ≤ sizeLine; decide, fun p5 hp5 => ?_⟩⟩⟩
      have u4 := same_new (o := .tup (zs.drop j)) hp4
      have u5 := same_new (o := .tup [.ref p2, .ref p4]) hp5
      have s36 := u2.trans (u3.trans (u4.trans u5))
      have w1 := dpA_take j (dpA_same s36 _ _ hzs)
      have w2 := dpA_drop j (dpA_same s36 _ _ hzs)
      rw [← List.map_take, seg_take C z 0 k j (by omega)] at w1
      rw [← List.map_drop, seg_drop C z k j (by omega)] at w2
      refine q _ _ j (k - j) (s3.trans s36) (by omega) (by omega) (by rw [show j + (k - j) = k by omega]; exact ej.symm) (by rw [show j + (k - j) = k by omega]; exact dist) (.tup (SqT.of upd_same) (.cons (.tup (SqT.of ((u4.trans u5) _ _ a23)) w1) (.cons (.tup (SqT.of (u5 _ _ upd_same)) w2) .nil)))
    · have hno : ∀ i, i < k → stS C z i ≠ stS C z k := fun i hi e => hin ⟨i, hi, e⟩
      rw [plc_none hno]
      refine ite2 (fun _ => ?_) (fun h => absurd rfl h)
      refine ⟨fun σ' H' => ∃ (y4 y5 : Option V) (zs : List V), σ' = [some (.ref d), some (.int (stS C z (k + 1) : Nat)), some (.ref pl), some (.ref L), y4, y5, none] ∧ Same H H' ∧ H' pl = some (.dK (plc C z (k + 1))) ∧ H' L = some (.lst zs) ∧ DpAll K H' zs ((seg C z 0 (k + 1)).map fun b => dI b.1) ∧ ∀ i j, i < k + 1 → j < k + 1 → stS C z i = stS C z j → i = j, fun σ' H' ⟨y4, y5, zs, e, r⟩ => ⟨C.length + 1 - (k + 1), by omega, k + 1, y4, y5, zs, rfl, e, r⟩, ?_⟩
      have pll : (plc C z k).length = k := by
        unfold plc
        rw [List.length_map, List.length_range]
      have few50 := ok.few
      refine ⟨_, rfl, _, _, rfl, .inl ⟨_, SqL.of hL3, rfl⟩, _, rfl, _, rfl, pl, _, rfl, DPut.k (k := .inl ((stS C z k : Nat) : Int)) hpl3 (by rw [pll]; exact line6 (by omega)), ?_⟩
      rw [zl, plc_put hno]
      have kd := keepT_nt (o := .dK (plc C z (k + 1))) (nt_dk _) hpl3
      have hL4 : (upd H3 pl (.dK (plc C z (k + 1)))) L = some (.lst zs) := by
        rw [upd_ne plL.symm]
        exact hL3
      have s4 : Same H (upd H3 pl (.dK (plc C z (k + 1)))) := same_mut s3 hpl
      have hpl4 := upd_same (H := H3) (a := pl) (o := .dK (plc C z (k + 1)))
      have hzs4 := dpA_keep kd _ _ (noLs_map _ _ fun b _ => dI_noL b.1) hzs
      generalize upd H3 pl (.dK (plc C z (k + 1))) = H4 at hL4 s4 hpl4 hzs4
      obtain ⟨v, hv, hdv⟩ := hp _ (stS_ok ok h0 k)
      have hdv := dp_same s4 _ _ hdv
      obtain ⟨pb, x0, x1, rfl, hpb, hd0, hd1⟩ := br_at hdv
      refine ⟨_, rfl, _, rfl, d, _, rfl, by rw [← hv]; exact DGet.k (k := .inl ((stS C z k : Nat) : Int)) (s4 _ _ hd), ?_⟩
      refine ⟨pb, _, rfl, hpb, rfl, _, _, rfl, _, _, rfl, _, _, rfl, rfl, ?_⟩
      have kL := keepT_nt (o := .lst (zs ++ [x0])) (nt_lst _) hL4
      refine ⟨_, rfl, .inl ⟨rfl, _, SqL.of hL4⟩, _, rfl, L, zs, _, rfl, rfl, hL4, line6 (by omega), some x0, some x1, zs ++ [x0], rfl, same_mut s4 hL0, ?_, upd_same, ?_, ?_⟩
      · rw [upd_ne plL]
        exact hpl4
      · rw [seg_succ, List.map_append, Nat.zero_add]
        exact dpA_snoc (dpA_keep kL _ _ (noLs_map _ _ fun b _ => dI_noL b.1) hzs4) (dp_keep kL _ _ (dI_noL _) hd0)
      · intro i j hi hj e
        by_cases hik : i = k
        · by_cases hjk : j = k
          · rw [hik, hjk]
          · rw [hik] at e
            exact absurd e.symm (hno j (by omega))
        · by_cases hjk : j = k
          · rw [hjk] at e
            exact absurd e (hno i (by omega))
          · exact dist i j (by omega) (by omega) e
end
end Mt
namespace Mt
open PySem PySem.Spec PyProof.Rows L2
theorem atI_m1 {xs : List V} {x : V} (h : xs.getLast? = some x) : atI xs (-1) = some x := by
  cases xs with
  | nil => cases h
  | cons a r =>
    unfold atI ixN
    rw [if_neg (by decide), if_pos (by rw [List.length_cons]; omega)]
    show (a :: r)[(-1 + ((a :: r).length : Int)).toNat]? = some x
    rw [show (-1 + ((a :: r).length : Int)).toNat = (a :: r).length - 1 by rw [List.length_cons]; omega, ← List.getLast?_eq_getElem?]
    exact h
def spRAlong (K : PySem.W.Frag) : Sp := fun vs H Q _ => ∃ (vr vw vg : V) (base : Int) (C : Chn) (l m : List Br), vs = [vr, vw, vg] ∧ Dp K H vr (.tuple (C.map dRw)) ∧ ChnOk base C ∧ Fol C 0 l ∧ Fol C (stA 0 l) m ∧ m ≠ [] ∧ stA (stA 0 l) m = stA 0 l ∧ l.length ≤ 1000 ∧ m.length ≤ 1000 ∧
  Dp K H vw (dWd l) ∧ Dp K H vg (dWd m) ∧ ∀ H' v, Same H H' → Dp K H' v (.tuple [.list (l.map dBr), .list (m.map dBr)]) → Q v H'
theorem last_at {K : PySem.W.Frag} {H : Hp} {l : List Br} {xs : List V} {b : Br} (h : DpAll K H xs (l.map dBr)) (hb : l.getLast? = some b) : ∃ p x0 x1, xs.getLast? = some (.ref p) ∧ SqT K H p [x0, x1, .int (b.2.2 : Int)] := by
  have hl := dpA_len h
  rw [List.length_map] at hl
  rw [List.getLast?_eq_getElem?] at hb
  obtain ⟨x, hx, hd⟩ := dpA_get h hb
  obtain ⟨p, x0, x1, rfl, hp, _, _⟩ := br_at hd
  refine ⟨p, x0, x1, ?_, hp⟩
  rw [List.getLast?_eq_getElem?, hl]
  exact hx
section
variable {P : Program} {w : World} {K : PySem.W.Frag} {mg : Str → Option Value} {base : Heap}
theorem ok_ring_along (T : Txt K mg) (D_branches_along : Kept P w K mg base 1 "branches_along" ["rows", "state", "blocks"] (spAlong K)) {f : Addr} {fd : FuncData} (F : FnP K "ring_along" s_ring_along f fd) : FnOk P w K mg base CX0 2 f fd ["rows", "way", "ring"] (spRAlong K) := by
  refine F.ok sc_ring_along (fun vs H Q E h => ?_) (fun cdv A outer s H vs Q E hr h => ?_)
  · obtain ⟨vr, vw, vg, b, C, l, m, rfl, _⟩ := h
    rfl
  · obtain ⟨vr, vw, vg, b, C, l, m, rfl, hR, ok, f1, f2, ne, cy, l1, l2, hw, hg, q⟩ := h
    refine ⟨_, PSs.nox (pss_cons (ps_set (i := 3) sc_ring_along.nd rfl (Or.inl rfl) (pe_d D_branches_along (hr.mono (by decide)) (by rfl) (pa_cons (pv 0) (pa_cons pe_int (pa_cons (pv 1) pa_nil)))))
      (pss_cons (ps_if (PW.pt (pw_or (pt_cmpR op_isN (pv 3) pe_non (nomark _)) (pw_or1 (pt_not (pt_truth (pv 2) (by intro _; rfl)))))) (pss_one (ps_ret pe_non)) pss_nil)
      (pss_cons (ps_set (i := 4) sc_ring_along.nd rfl (Or.inl rfl) (pe_ifExp (pt_truth (pv 3) (by intro _; rfl)) (pe_ix ix_tup (pe_ix ix_list (pv 3) (pe_un un_neg pe_int) (fun _ _ => rfl)) pe_int (fun _ _ => rfl)) pe_int))
      (pss_cons (ps_set (i := 5) sc_ring_along.nd rfl (Or.inl rfl) (pe_d D_branches_along (hr.mono (by decide)) (by rfl) (pa_cons (pv 0) (pa_cons (pv 4) (pa_cons (pv 2) pa_nil)))))
      (pss_cons (ps_if (PW.pt (pw_or (pt_cmpR op_isN (pv 5) pe_non (nomark _)) (pw_or1 (pt_cmpR op_ne (pe_ix ix_tup (pe_ix ix_list (pv 5) (pe_un un_neg pe_int) (fun _ _ => rfl)) pe_int (fun _ _ => rfl)) (pv 4) (nomark _))))) (pss_one (ps_ret pe_non)) pss_nil)
      (pss_one (ps_ret (pe_tup (pa_cons (pv 3) (pa_cons (pv 5) pa_nil)))))))))), ?_⟩
    refine ⟨_, rfl, _, rfl, vr, vw, 0, b, C, l, rfl, hR, ok, ok.pos, f1, l1, hw, fun H1 v s1 hv => ?_⟩
    obtain ⟨L1, zs, rfl, hL1, hzs⟩ := dp_lst hv
    obtain ⟨pg, gs, rfl, hpg, hgs⟩ := dp_tup hg
    have gl := dpA_len hgs
    rw [List.length_map] at gl
    have gne : gs ≠ [] := fun e => ne (List.length_eq_zero_iff.mp (by rw [← gl, e]; rfl))
    refine ⟨_, rfl, rfl, _, rfl, ite2 (fun h => (nomatch (show false = true from h))) (fun _ => ⟨_, rfl, true, .inr (.inl ⟨gs, same_t s1 hpg, by cases gs with | nil => exact absurd rfl gne | cons _ _ => rfl⟩), iteNT ?_⟩)⟩
    cases hll : l.getLast? with
    | none =>
      have l0 : l = [] := List.getLast?_eq_none_iff.mp hll
      have z0 : zs = [] := by
        have := dpA_len hzs
        rw [l0] at this
        exact List.length_eq_zero_iff.mp this
      subst l0
      refine ⟨_, rfl, false, .inl ⟨_, hL1, by rw [z0]; rfl⟩, ?_⟩
      refine ⟨_, rfl, _, rfl, _, rfl, vr, .ref pg, stA 0 [], b, C, m, rfl, dp_same s1 _ _ hR, ok, ok.pos, f2, l2, dp_same s1 _ _ hg, fun H2 v2 s2 hv2 => ?_⟩
      obtain ⟨L2', us, rfl, hL2, hus⟩ := dp_lst hv2
      obtain ⟨lb, hlb⟩ : ∃ lb, m.getLast? = some lb := by
        cases e : m.getLast? with
        | none => exact absurd (List.getLast?_eq_none_iff.mp e) ne
        | some lb => exact ⟨lb, rfl⟩
      obtain ⟨p, z0, z1, hlast, hp⟩ := last_at hus hlb
      have elb : stA 0 [] = lb.2.2 := by
        rw [← cy]
        unfold stA
        rw [hlb]
      refine ⟨_, rfl, rfl, _, rfl, ite2 (fun h => (nomatch (show false = true from h))) (fun _ => ?_)⟩
      refine ⟨_, rfl, _, rfl, L2', us, _, _, rfl, rfl, hL2, atI_m1 hlast, p, _, _, _, rfl, rfl, hp, atI_nat (j := 2) rfl, _, rfl, rfl, _, rfl, ite2 (fun h => absurd h ?_) (fun _ => ?_)⟩
      · rw [show lb.2.2 = 0 from elb.symm]
        simp
      · refine ⟨_, rfl, _, rfl, by show 2 ≤ sizeLine; decide, fun p9 hp9 => ?_⟩
        have s9 := same_new (o := .tup [.ref L1, .ref L2']) hp9
        exact q _ _ (s1.trans (s2.trans s9)) (.tup (SqT.of upd_same) (.cons (dp_same (s2.trans s9) _ _ hv) (.cons (dp_same s9 _ _ hv2) .nil)))
    | some lb0 =>
      obtain ⟨p', y0, y1, hlast', hp'⟩ := last_at hzs hll
      have e0 : lb0.2.2 = stA 0 l := by
        unfold stA
        rw [hll]
      rw [e0] at hp'
      refine ⟨_, rfl, true, .inl ⟨_, hL1, ?_⟩, ?_⟩
      · cases zs with
        | nil => cases hlast'
        | cons _ _ => rfl
      · refine ⟨_, rfl, _, rfl, L1, zs, _, _, rfl, rfl, hL1, atI_m1 hlast', p', _, _, _, rfl, rfl, hp', atI_nat (j := 2) rfl, ?_⟩
        refine ⟨_, rfl, _, rfl, _, rfl, vr, .ref pg, stA 0 l, b, C, m, rfl, dp_same s1 _ _ hR, ok, by have := fol_lt ok ok.pos f1 l.length (Nat.le_refl _); rw [List.take_length] at this; exact this, f2, l2, dp_same s1 _ _ hg, fun H2 v2 s2 hv2 => ?_⟩
        obtain ⟨L2', us, rfl, hL2, hus⟩ := dp_lst hv2
        obtain ⟨lb, hlb⟩ : ∃ lb, m.getLast? = some lb := by
          cases e : m.getLast? with
          | none => exact absurd (List.getLast?_eq_none_iff.mp e) ne
          | some lb => exact ⟨lb, rfl⟩
        obtain ⟨p, z0, z1, hlast, hp⟩ := last_at hus hlb
        have elb : stA 0 l = lb.2.2 := by
          rw [← cy]
          unfold stA
          rw [hlb]
        refine ⟨_, rfl, rfl, _, rfl, ite2 (fun h => (nomatch (show false = true from h))) (fun _ => ?_)⟩
        refine ⟨_, rfl, _, rfl, L2', us, _, _, rfl, rfl, hL2, atI_m1 hlast, p, _, _, _, rfl, rfl, hp, atI_nat (j := 2) rfl, _, rfl, rfl, _, rfl, ite2 (fun h => absurd h ?_) (fun _ => ?_)⟩
        · rw [elb]
          simp
        · refine ⟨_, rfl, _, rfl, by show 2 ≤ sizeLine; decide, fun p9 hp9 => ?_⟩
          have s9 := same_new (o := .tup [.ref L1, .ref L2']) hp9
          exact q _ _ (s1.trans (s2.trans s9)) (.tup (SqT.of upd_same) (.cons (dp_same (s2.trans s9) _ _ hv) (.cons (dp_same s9 _ _ hv2) .nil)))
end
end Mt
namespace Mt
open PySem PySem.Spec PyProof.Rows L2
/-- a tape of three digits for each tick is long enough -/
theorem wk_some {base : Int} {C : Chn} (ok : ChnOk base C) {tape : List Int} (ht : ∀ x ∈ tape, 0 ≤ x ∧ x < base) : ∀ n, 3 * n ≤ tape.length → ∃ w, wk C tape n = some w ∧ w.2.2 ≤ 3 * n
  | 0, _ => ⟨_, rfl, Nat.le_refl _⟩
  | n + 1, h => by
    obtain ⟨w, hw, hr⟩ := wk_some ok ht n (by omega)
    obtain ⟨_, lt, _⟩ := wk_ok ok n w hw
    have okr := ok.row _ (List.mem_of_getElem? (rowOf_at lt))
    obtain ⟨u, hu, hp⟩ := okr.cm.all (tape.drop w.2.2) (fun x hx => ht x (List.mem_of_mem_drop hx)) (by rw [List.length_drop]; omega)
    obtain ⟨br, hbr, rfl⟩ := List.mem_map.mp hu
    have hs : (nextB (rowOf C w.2.1) (tape.drop w.2.2)).isSome = true := List.find?_isSome.mpr ⟨br, hbr, fits_pre.mpr hp⟩
    obtain ⟨b, hb⟩ := Option.isSome_iff_exists.mp hs
    have hm : b ∈ rowOf C w.2.1 := List.mem_of_find?_eq_some hb
    have short := okr.cm.short b.1 (List.mem_map.mpr ⟨b, hm, rfl⟩)
    refine ⟨(w.1 ++ [b.2.1], b.2.2, w.2.2 + b.1.length), ?_, by show w.2.2 + b.1.length ≤ 3 * (n + 1); omega⟩
    show (wk C tape n).bind _ = _
    rw [hw]
    show (nextB (rowOf C w.2.1) (tape.drop w.2.2)).map _ = _
    rw [hb]
    rfl
/-- as long as a walk is silent the rank falls with each tick -/
theorem wk_falls {base : Int} {C : Chn} (ok : ChnOk base C) {tape : List Int} {z : Str} (h0 : 0 < ga (rk (nx C z)) 0) : ∀ n w, wk C tape n = some w → (∀ sh ∈ w.1, z ∉ sh) → 0 < ga (rk (nx C z)) w.2.1 ∧ ga (rk (nx C z)) w.2.1 + n ≤ ga (rk (nx C z)) 0
  | 0, w, h, _ => by
    cases h
    exact ⟨h0, Nat.le_refl _⟩
  | n + 1, w, h, hs => by
    obtain ⟨x, hx, hb⟩ := Option.bind_eq_some_iff.mp h
    obtain ⟨b, hnb, rfl⟩ := Option.map_eq_some_iff.mp hb
    have hs' : ∀ sh ∈ x.1 ++ [b.2.1], z ∉ sh := hs
    obtain ⟨i1, i2⟩ := wk_falls ok h0 n x hx fun sh hsh => hs' sh (List.mem_append.mpr (.inl hsh))
    have hm : b ∈ rowOf C x.2.1 := List.mem_of_find?_eq_some hnb
    have zb := hs' b.2.1 (List.mem_append.mpr (.inr (List.mem_singleton.mpr rfl)))
    have ht : b.2.2 ∈ tgs (nx C z) x.2.1 := by
      rw [tgs_nx]
      exact List.mem_map.mpr ⟨b, List.mem_filter.mpr ⟨hm, by simpa using zb⟩, rfl⟩
    obtain ⟨r1, r2⟩ := rk_sure i1 b.2.2 ht
    refine ⟨r1, ?_⟩
    show ga (rk (nx C z)) b.2.2 + (n + 1) ≤ _
    omega
theorem wk_shows {base : Int} {C : Chn} (ok : ChnOk base C) {tape : List Int} {z : Str} (h0 : 0 < ga (rk (nx C z)) 0) {w : List (List Str) × Nat × Nat} (h : wk C tape (ga (rk (nx C z)) 0) = some w) : ∃ sh ∈ w.1, z ∈ sh := by
  by_cases k : ∃ sh ∈ w.1, z ∈ sh
  · exact k
  · obtain ⟨a, b⟩ := wk_falls ok h0 _ w h fun sh hsh hz => k ⟨sh, hsh, hz⟩
    omega
end Mt
namespace Mt
open PySem PySem.Spec PyProof.Rows L2
def spComes (K : PySem.W.Frag) : Sp := fun vs H Q _ => ∃ (S D : Addr) (vc : V) (z : Str) (base : Int) (C : Chn), vs = [.ref D, vc, .str z, .int (ga (rk (nx C z)) 0 : Nat)] ∧ DrawAt S D H ∧ Dp K H vc (dChn base C) ∧ ChnOk base C ∧ 0 < ga (rk (nx C z)) 0 ∧ ∀ H', Go S D H H' → Q (.bl true) H'
section
variable {P : Program} {w : World} {K : PySem.W.Frag} {mg : Str → Option Value} {base : Heap}
theorem ok__law_comes (T : Txt K mg) (D_walk : Kept P w K mg base 2 "walk" ["chain", "tape", "ticks"] (spWalk K)) (D__law_draw : Kept P w K mg base 1 "_law_draw" ["d", "many"] spDraw) {f : Addr} {fd : FuncData} (F : FnP K "_law_comes" s__law_comes f fd) : FnOk P w K mg base CX0 3 f fd ["d", "chain", "mark", "rank"] (spComes K) := by
  refine F.ok sc__law_comes (fun vs H Q E h => ?_) (fun cdv A outer s H vs Q E hr h => ?_)
  · obtain ⟨S, D, vc, z, b, C, rfl, _⟩ := h
    rfl
  · obtain ⟨S, D, vc, z, b, C, rfl, d, hC, ok, h0, q⟩ := h
    refine ⟨_, PSs.nox (pss_cons (ps_set (i := 4) sc__law_comes.nd rfl (Or.inl rfl) (pe_callTy (tupOfT (K := K) rfl) (by rfl) T.b_tuple (by decide +kernel) (pa_cons (pe_lc (own := [("k", 5)]) (g := (gName 5)) (tt := tYes) rfl sc__law_comes.nd (pi_range1 (by rfl) T.b_range (pa_cons (pe_op op_mul pe_int (pv 3)) pa_nil)) (blkOk_by (N := N__law_comes) (sc := defScope s__law_comes) (by decide +kernel)) (fun _ _ _ _ _ => (pg_name (i := 5) sc__law_comes.nd rfl (Or.inl rfl))) (fun _ _ _ _ _ => pts_nil) (fun _ _ _ _ _ => (pe_d D__law_draw (hr.mono (by decide)) (by rfl) (pa_cons (pv 0) (pa_cons (pe_ix (ixT (K := K) rfl) (pv 1) pe_int (fun _ _ => rfl)) pa_nil))))) pa_nil)))
      (pss_cons (ps_set (i := 6) sc__law_comes.nd rfl (Or.inl rfl) (pe_d D_walk (hr.mono (by decide)) (by rfl) (pa_cons (pv 1) (pa_cons (pv 4) (pa_cons (pv 3) pa_nil)))))
      (pss_cons (ps_if (PW.pt (pw_or (pt_not (pt_val (pe_callB call_isi (by rfl) T.b_isinstance (by decide +kernel) (pa_cons (pv 6) (pa_cons (pe_bltn (v := .ty "tuple") (u := .type "tuple") (by rfl) T.b_tuple (by decide +kernel) rfl) pa_nil))))) (pw_or (pt_cmpR op_ne (pe_callB call_len (by rfl) T.b_len (by decide +kernel) (pa_cons (pv 6) pa_nil)) pe_int (nomark _)) (pw_or (pt_not (pt_val (pe_callB call_isi (by rfl) T.b_isinstance (by decide +kernel) (pa_cons (pe_ix ix_tup (pv 6) pe_int (fun _ _ => rfl)) (pa_cons (pe_bltn (v := .ty "tuple") (u := .type "tuple") (by rfl) T.b_tuple (by decide +kernel) rfl) pa_nil))))) (pw_or1 (pt_cmpR op_ne (pe_callB call_len (by rfl) T.b_len (by decide +kernel) (pa_cons (pe_ix ix_tup (pv 6) pe_int (fun _ _ => rfl)) pa_nil)) (pv 3) (nomark _))))))) (pss_one (ps_ret pe_bl)) pss_nil)
      (pss_one (ps_ret (pe_cmpR op_gt (pe_callB call_len (by rfl) T.b_len (by decide +kernel) (pa_cons (pe_lc (own := [("shown", 7)]) (g := (gName 7)) rfl sc__law_comes.nd (pi_tup (pe_ix ix_tup (pv 6) pe_int (fun _ _ => rfl))) (blkOk_by (N := N__law_comes) (sc := defScope s__law_comes) (by decide +kernel)) (fun _ _ _ _ _ => (pg_name (i := 7) sc__law_comes.nd rfl (Or.inl rfl))) (fun _ _ _ _ _ => (pts_one (pt_cmpR (inK (K := K) rfl) (pv 2) (pv 7) (by rfl)))) (fun _ _ _ _ _ => (pv 7))) pa_nil)) pe_int (nomark _))))))), ?_⟩
    have hC0 := hC
    obtain ⟨pc, pq, xs, rfl, hpc, hpq, hA⟩ := chn_at hC
    have few := ok.few
    have n50 : ga (rk (nx C z)) 0 ≤ 50 := by
      have : ga (rk (nx C z)) 0 ≤ (nx C z).length := (fnd_val (N := nx C z) _ 0 h0).1
      have nl : (nx C z).length = C.length := by
        unfold nx
        rw [List.length_map]
      omega
    have sh := fun (tape : List Int) (w : List (List Str) × Nat × Nat) (h : wk C tape (ga (rk (nx C z)) 0) = some w) => wk_shows ok h0 h
    generalize ga (rk (nx C z)) 0 = n at *
    refine ⟨_, rfl, _, _, rfl, rfl, .inl ⟨by decide, by decide⟩, _, rfl, by omega, by omega, fun L hL => lc_range (lo := 0) (n := 3 * n) (fun j H' => ∃ tape : List Int, Go S D H H' ∧ H' L = some (.lst (tape.map V.int)) ∧ tape.length = j ∧ ∀ x ∈ tape, 0 ≤ x ∧ x < b) ⟨[], Go.new d hL, upd_same, rfl, fun _ h => absurd h List.not_mem_nil⟩ ?_ ?_⟩
    · rintro i H1 hi ⟨tape, g, hL1, hl, ht⟩
      have LD := (d.free hL).1
      refine ⟨rfl, _, rfl, _, rfl, pc, _, _, _, rfl, rfl, sqt_keep (Go.keepT d g) hpc, atI_nat (j := 1) rfl, S, D, b, rfl, divW_of (by have := ok.b2; omega) (by have := ok.b6; omega), g.1, fun H2 v v0 v1 g2 => ⟨_, g2.2 _ _ hL1 LD, ?_, tape ++ [v], goU hL d (g.trans g2), ?_, ?_, fun x hx => ?_⟩⟩
      · rw [List.length_map]
        exact line6 (by omega)
      · rw [upd_same, List.map_append]
        rfl
      · rw [List.length_append, hl]
        rfl
      · rcases List.mem_append.mp hx with h | h
        · exact ht x h
        · rw [List.mem_singleton.mp h]
          exact ⟨v0, v1⟩
    · rintro H1 ⟨tape, g, hL1, hl, ht⟩
      refine ⟨L, _, rfl, .inl ⟨SqL.of hL1, fun pt hpt => ?_⟩⟩
      have g2 := g.trans (Go.new (o := .tup (tape.map V.int)) g.1 hpt)
      have hpt2 := upd_same (H := H1) (a := pt) (o := .tup (tape.map V.int))
      generalize upd H1 pt (.tup (tape.map V.int)) = H2 at g2 hpt2
      have k2 := Go.keepT d g2
      obtain ⟨w, hw, _⟩ := wk_some ok ht n (by omega)
      obtain ⟨wl, _, _⟩ := wk_ok ok n w hw
      obtain ⟨sh1, hs1, hz1⟩ := sh tape w hw
      refine ⟨_, rfl, _, rfl, _, rfl, .ref pc, .ref pt, n, b, C, tape, w, rfl, dp_keep k2 _ _ (dChn_noL b C) hC0, ok, i_of (SqT.of hpt2), by omega, by omega, hw, fun H3 v s3 hv => ?_⟩
      obtain ⟨p, xs', rfl, h1, hA1⟩ := dp_tup hv
      obtain ⟨x0, r0, rfl, hx0, hA1⟩ := dpA_cons hA1
      obtain ⟨x1, r1, rfl, hx1, hA1⟩ := dpA_cons hA1
      obtain ⟨x2, r2, rfl, hx2, hA1⟩ := dpA_cons hA1
      cases dpA_nil hA1
      obtain ⟨p0, ys, rfl, hp0, hys⟩ := dp_tup hx0
      have yl := dpA_len hys
      rw [List.length_map] at yl
      have g3 := g2.trans (Go.same g2.1 s3)
      refine ⟨_, rfl, _, .ty "tuple", .type "tuple", .type "tuple", true, rfl, .ty _, sqt_ty h1, kit_ty (by decide +kernel), true, rfl, iteNT ?_⟩
      refine ⟨_, rfl, _, _, rfl, .inr ⟨_, h1, rfl⟩, rfl, _, rfl, ite2 (fun h => absurd h (by show ¬ (!decide (V.int ((3 : Nat) : Int) = V.int 3)) = true; decide)) (fun _ => ?_)⟩
      refine ⟨_, rfl, p, _, _, _, rfl, rfl, h1, atI_nat (j := 0) rfl, _, .ty "tuple", .type "tuple", .type "tuple", true, rfl, .ty _, sqt_ty hp0, kit_ty (by decide +kernel), true, rfl, iteNT ?_⟩
      refine ⟨_, rfl, p, _, _, _, rfl, rfl, h1, atI_nat (j := 0) rfl, _, _, rfl, .inr ⟨_, hp0, rfl⟩, _, rfl, rfl, _, rfl, ite2 (fun h => absurd h ?_) (fun _ => ?_)⟩
      · rw [yl, wl]
        simp
      · refine ⟨_, rfl, p, _, _, _, rfl, rfl, h1, atI_nat (j := 0) rfl, p0, rfl, ⟨_, hp0⟩, fun M hM => lc_tup (K := K) (a := p0) (xs := ys) (fun j H' => Same H3 H' ∧ ∃ us : List V, H' M = some (.lst us) ∧ us.length = ((w.1.take j).filter fun sh => decide (z ∈ sh)).length) ⟨same_new hM, [], upd_same, rfl⟩ (fun j H' _ e => same_t e.1 hp0) ?_ ?_⟩
        · rintro j y H4 hj ⟨s4, us, hM4, ul⟩
          obtain ⟨sj, hsj, hy⟩ := dpA_mem (dpA_same s4 _ _ hys) hj
          obtain ⟨p1, rfl, hp1⟩ := sh_at hy
          have fl := List.length_filter_le (fun sh : List Str => decide (z ∈ sh)) (w.1.take j)
          rw [List.length_take] at fl
          have ft : (w.1.take (j + 1)).filter (fun sh => decide (z ∈ sh)) = (w.1.take j).filter (fun sh => decide (z ∈ sh)) ++ [sj].filter (fun sh => decide (z ∈ sh)) := by
            rw [take_snoc hsj, List.filter_append]
          refine ⟨rfl, _, rfl, _, rfl, p1, _, rfl, .inr hp1, rfl, flat_strs _, _, rfl, ?_⟩
          rw [inV_str]
          refine ite2 (fun h2 => ?_) (fun h2 => ?_)
          · have h2 : decide (z ∈ sj) = true := h2
            refine ⟨_, rfl, us, hM4, line6 (by omega), same_mut s4 hM, us ++ [.ref p1], upd_same, ?_⟩
            rw [ft, List.filter_cons_of_pos (p := fun sh : List Str => decide (z ∈ sh)) h2, List.filter_nil, List.length_append, List.length_append, ul]
            rfl
          · have h2 : ¬ decide (z ∈ sj) = true := h2
            refine ⟨s4, us, hM4, ?_⟩
            rw [ft, List.filter_cons_of_neg (p := fun sh : List Str => decide (z ∈ sh)) h2, List.filter_nil, List.append_nil]
            exact ul
        · rintro H4 ⟨s4, us, hM4, ul⟩
          rw [yl, List.take_length] at ul
          have pos : 0 < us.length := by
            rw [ul]
            exact List.length_pos_iff.mpr (List.ne_nil_of_mem (List.mem_filter.mpr ⟨hs1, decide_eq_true hz1⟩))
          refine ⟨_, _, rfl, .inl ⟨_, SqL.of hM4, rfl⟩, _, _, rfl, rfl, ?_⟩
          have e : decide ((0 : Int) < (us.length : Int)) = true := decide_eq_true (by omega)
          show Q (.bl (decide ((0 : Int) < (us.length : Int)))) H4
          rw [e]
          exact q _ (g3.trans (Go.same g3.1 s4))
end
end Mt
namespace Mt
open PySem PySem.Spec PyProof.Rows L2
abbrev cs_la1 : Scope := { kind := .function, names := [(Str.ofString ".0", .local), (Str.ofString "row", .local), (Str.ofString "mark", .cell)], isGenerator := false, isCoroutine := false }
abbrev cs_la2 : Scope := { kind := .function, names := [(Str.ofString ".0", .local), (Str.ofString "row", .local)], isGenerator := false, isCoroutine := false }
def dN (l : List Nat) : PyData := .tuple (l.map fun k : Nat => .int (k : Int))
/-- what latest tells -/
def Lat (C : Chn) (z : Str) (d : PyData) : Prop := (0 < ga (rk (nx C z)) 0 ∧ d = .tuple [.str "sure", dN (rk (nx C z))]) ∨ (ga (rk (nx C z)) 0 = 0 ∧ ∃ a r, 0 < r ∧ a + r ≤ C.length ∧ stS C z (a + r) = stS C z a ∧ (∀ i j, i < a + r → j < a + r → stS C z i = stS C z j → i = j) ∧ d = .tuple [.str "ring", dWd (seg C z 0 a), dWd (seg C z a r)])
theorem Lat.uniq {C : Chn} {z : Str} {d e : PyData} (h1 : Lat C z d) (h2 : Lat C z e) : d = e := by
  rcases h1 with ⟨p, rfl⟩ | ⟨p, a, r, r0, _, e1, dis, rfl⟩
  · rcases h2 with ⟨_, rfl⟩ | ⟨p2, _⟩
    · rfl
    · omega
  · rcases h2 with ⟨p2, _⟩ | ⟨_, a', r', r0', _, e1', dis', rfl⟩
    · omega
    · have es : a + r = a' + r' := by
        by_cases k : a + r < a' + r'
        · have := dis' (a + r) a k (by omega) e1
          omega
        · by_cases k2 : a' + r' < a + r
          · have := dis (a' + r') a' k2 (by omega) e1'
            omega
          · omega
      have ea : a = a' := dis a a' (by omega) (by omega) (by rw [← e1, es, e1'])
      subst ea
      have er : r = r' := by omega
      subst er
      rfl
def spLatest (K : PySem.W.Frag) : Sp := fun vs H Q _ => ∃ (vc : V) (z : Str) (base : Int) (C : Chn), vs = [vc, .str z] ∧ Dp K H vc (dChn base C) ∧ ChnOk base C ∧ ∀ H' v d, Same H H' → Lat C z d → Dp K H' v d → Q v H'
def dSlR (z : Str) (r : List Br) : PyData := .list ((sl z r).map dBr)
theorem nats_dp {K : PySem.W.Frag} {H : Hp} : ∀ l : List Nat, DpAll K H (l.map vN) (l.map fun k : Nat => .int (k : Int))
  | [] => .nil
  | s :: r => .cons (.int _) (nats_dp r)
theorem sl_snoc (z : Str) (r : List Br) (b : Br) : sl z (r ++ [b]) = if z ∈ b.2.1 then sl z r else sl z r ++ [b] := by
  unfold sl
  rw [List.filter_append]
  by_cases e : z ∈ b.2.1
  · rw [if_pos e, List.filter_cons_of_neg (by simpa using e), List.filter_nil, List.append_nil]
  · rw [if_neg e, List.filter_cons_of_pos (by simpa using e), List.filter_nil]
theorem nxOk {base : Int} {C : Chn} (ok : ChnOk base C) (z : Str) : NxOk (nx C z) := by
  have nl : (nx C z).length = C.length := by
    unfold nx
    rw [List.length_map]
  refine ⟨by have := ok.few; omega, fun l hl => ?_⟩
  obtain ⟨r, hr, rfl⟩ := List.mem_map.mp hl
  have okr := ok.row r hr
  refine ⟨?_, fun t ht => ?_⟩
  · rw [List.length_map]
    have h := List.length_filter_le (fun b : Br => !decide (z ∈ b.2.1)) r
    have := okr.few
    have : (sl z r).length ≤ r.length := h
    omega
  · obtain ⟨b, hb, rfl⟩ := List.mem_map.mp ht
    rw [nl]
    exact (okr.to b (List.mem_filter.mp hb).1).1
section
variable {P : Program} {w : World} {K : PySem.W.Frag} {mg : Str → Option Value} {base : Heap}
theorem ok_latest (T : Txt K mg) (D_longest : Kept P w K mg base 1 "longest" ["nexts"] (spLong K)) (D_ring_of : Kept P w K mg base 1 "ring_of" ["picked", "state"] (spRing K)) {f : Addr} {fd : FuncData} (F : FnP K "latest" s_latest f fd) : FnOk P w K mg base CX0 2 f fd ["chain", "mark"] (spLatest K) := by
  refine F.ok sc_latest (fun vs H Q E h => ?_) (fun cdv A outer s H vs Q E h9 h => ?_)
  · obtain ⟨vc, z, b, C, rfl, _⟩ := h
    rfl
  · have hr := h9
    obtain ⟨vc, z, b, C, rfl, hC, ok, q⟩ := h
    refine ⟨_, PSs.nox (pss_cons (ps_set (i := 2) sc_latest.nd rfl (Or.inl rfl) (pe_ix ix_tup (pv 0) pe_int (fun _ _ => rfl)))
      (pss_cons (ps_setLc (i := 3) (own := [("row", 5)]) (g := (gName 5)) (tt := tYes) rfl sc_latest.nd rfl rfl (sw_true rfl rfl rfl (by decide +kernel)) (pi_tup (pv 2)) (blkOk_by (N := N_latest) (sc := defScope s_latest) (by decide +kernel)) (fun _ _ _ _ _ => (pg_name (i := 5) sc_latest.nd rfl (Or.inl rfl))) (fun _ _ _ _ _ => pts_nil) (fun _ _ _ _ _ => (pe_lc (own := [("branch", 4)]) (g := (gName 4)) rfl sc_latest.nd (piTK (K := K) rfl (pv 5)) (blkOk_by (N := N_latest) (sc := cs_la1) (by decide +kernel)) (fun _ _ _ _ _ => (pg_name (i := 4) sc_latest.nd rfl (Or.inl rfl))) (fun _ _ _ _ _ => (pts_one (pt_cmpR (ninK (K := K) rfl) (pv 1) (pe_ix (ixT (K := K) rfl) (pv 4) pe_int (fun _ _ => rfl)) (by rfl)))) (fun _ _ _ _ _ => (pv 4)))))
      (pss_cons (ps_set (i := 6) sc_latest.nd rfl (Or.inr rfl) (pe_d D_longest (hr.mono (by decide)) (by rfl) (pa_cons (pe_lc (own := [("row", 5)]) (g := (gName 5)) (tt := tYes) rfl sc_latest.nd (pi_list (pv 3)) (blkOk_by (N := N_latest) (sc := defScope s_latest) (by decide +kernel)) (fun _ _ _ _ _ => (pg_name (i := 5) sc_latest.nd rfl (Or.inl rfl))) (fun _ _ _ _ _ => pts_nil) (fun _ _ _ _ _ => (pe_lc (own := [("branch", 4)]) (g := (gName 4)) (tt := tYes) rfl sc_latest.nd (piLK (K := K) rfl (pv 5)) (blkOk_by (N := N_latest) (sc := cs_la2) (by decide +kernel)) (fun _ _ _ _ _ => (pg_name (i := 4) sc_latest.nd rfl (Or.inl rfl))) (fun _ _ _ _ _ => pts_nil) (fun _ _ _ _ _ => (pe_ix (ixT (K := K) rfl) (pv 4) pe_int (fun _ _ => rfl)))))) pa_nil)))
      (pss_cons (ps_if (pt_cmpR op_gt (pe_ix ix_list (pv 6) pe_int (fun _ _ => rfl)) pe_int (nomark _)) (pss_one (ps_ret (pe_tup (pa_cons pe_str (pa_cons (pe_callTy call_tuple_of (by rfl) T.b_tuple (by decide +kernel) (pa_cons (pv 6) pa_nil)) pa_nil))))) pss_nil)
      (pss_cons (ps_set (i := 7) sc_latest.nd rfl (Or.inl rfl) pe_dnewK)
      (pss_cons (ps_for PassesOwn.never rfl (pi_enum (by rfl) T.b_enumerate (pa_cons (pv 3) pa_nil)) (pg_tup rfl (pgs_cons (pg_name (i := 8) sc_latest.nd rfl (Or.inl rfl)) (pgs_cons (pg_name (i := 5) sc_latest.nd rfl (Or.inl rfl)) pgs_nil))) (pss_one (ps_if (pt_cmpR op_eq (pe_ix ix_list (pv 6) (pv 8) (fun _ _ => rfl)) pe_int (nomark _)) (pss_one (ps_asg (pe_ix ix_list (pe_lc (own := [("branch", 4)]) (g := (gName 4)) rfl sc_latest.nd (pi_list (pv 5)) (blkOk_by (N := N_latest) (sc := defScope s_latest) (by decide +kernel)) (fun _ _ _ _ _ => (pg_name (i := 4) sc_latest.nd rfl (Or.inl rfl))) (fun _ _ _ _ _ => (pts_one (pt_cmpR op_eq (pe_ix (ixL (K := K) rfl) (pv 6) (pe_ix (ixT (K := K) rfl) (pv 4) pe_int (fun _ _ => rfl)) (fun _ _ => rfl)) pe_int (nomark _)))) (fun _ _ _ _ _ => (pv 4))) pe_int (fun _ _ => rfl)) (pg_sub (pv 7) (pv 8) (set_dict (hu_of hr))))) pss_nil)))
      (pss_one (ps_ret (pe_tup (pa_cons pe_str (StX.pa_star (pe_d D_ring_of (hr.mono (by decide)) (by rfl) (pa_cons (pv 7) (pa_cons pe_int pa_nil))) pa_nil))))))))))), ?_⟩
    obtain ⟨pc, pq, xs, rfl, hpc, hpq, hA⟩ := chn_at hC
    have xl := dpA_len hA
    rw [List.length_map] at xl
    have few := ok.few
    have pos := ok.pos
    have nl : (nx C z).length = C.length := by
      unfold nx
      rw [List.length_map]
    refine ⟨_, rfl, pc, _, _, _, rfl, rfl, hpc, atI_nat (j := 2) rfl, ?_⟩
    refine ⟨_, rfl, pq, rfl, ⟨_, hpq⟩, fun L hL => lc_tup (K := K) (a := pq) (xs := xs) (fun i H' => Same H H' ∧ FL K L H' ((C.take i).map (dSlR z))) ⟨same_new hL, FL.nil hL⟩ (fun i H' _ e => same_t e.1 hpq) ?_ ?_⟩
    · rintro i x H1 hi ⟨s1, fl⟩
      obtain ⟨r, hr1, hx⟩ := dpA_mem hA hi
      have il := (List.getElem?_eq_some_iff.mp hr1).1
      have okr := ok.row r (List.mem_of_getElem? hr1)
      have fewr := okr.few
      obtain ⟨pr, rs, rfl, hpr, hrs⟩ := dp_tup hx
      have rl := dpA_len hrs
      rw [List.length_map] at rl
      obtain ⟨zs, hL1, zl, _⟩ := id fl.d
      rw [List.length_map, List.length_take] at zl
      refine ⟨rfl, _, rfl, pr, rfl, ⟨_, same_t s1 hpr⟩, fun M hM => lc_tup (K := K) (a := pr) (xs := rs) (fun j H' => Same H1 H' ∧ ∃ us, H' M = some (.lst us) ∧ DpAll K H' us ((sl z (r.take j)).map dBr)) ⟨same_new hM, [], upd_same, .nil⟩ (fun j H' _ e => same_t (s1.trans e.1) hpr) ?_ ?_⟩
      · rintro j y H2 hj ⟨s2, us, hM2, hus⟩
        obtain ⟨br, hbr, hy⟩ := dpA_mem (dpA_same (s1.trans s2) _ _ hrs) hj
        have hy' := hy
        obtain ⟨pb, x0, x1, rfl, hpb, hd0, hd1⟩ := br_at hy
        obtain ⟨p1, rfl, hp1⟩ := sh_at hd1
        have ul := dpA_len hus
        rw [List.length_map] at ul
        have fl2 : (sl z (r.take j)).length ≤ (r.take j).length := List.length_filter_le _ _
        rw [List.length_take] at fl2
        refine ⟨rfl, _, rfl, _, rfl, pb, _, _, _, rfl, rfl, hpb, atI_nat (j := 1) rfl, p1, _, rfl, .inr hp1, rfl, flat_strs _, ?_⟩
        rw [inV_str]
        refine ⟨_, rfl, ?_⟩
        rw [take_snoc hbr, sl_snoc]
        refine ite2 (fun h => ?_) (fun h => ?_)
        · have h' : z ∉ br.2.1 := by
            have h : (!decide (z ∈ br.2.1)) = true := h
            simpa using h
          rw [if_neg h']
          refine ⟨_, rfl, us, hM2, line6 (by omega), same_mut s2 hM, us ++ [.ref pb], upd_same, ?_⟩
          have kM := keepT_nt (o := .lst (us ++ [.ref pb])) (nt_lst _) hM2
          rw [List.map_append]
          exact dpA_snoc (dpA_keep kM _ _ (noLs_br _) hus) (dp_keep kM _ _ (dBr_noL _) hy')
        · have h' : z ∈ br.2.1 := by
            have h : ¬ (!decide (z ∈ br.2.1)) = true := h
            simpa using h
          rw [if_pos h']
          exact ⟨s2, us, hM2, hus⟩
      · rintro H2 ⟨s2, us, hM2, hus⟩
        rw [rl, List.take_length] at hus
        have hL2 := s2 _ _ hL1
        refine ⟨zs, hL2, line6 (by omega), same_mut (s1.trans s2) hL, ?_⟩
        rw [take_snoc hr1, List.map_append]
        refine (fl.same s2).add hL2 fun o => ?_
        have nM : M ≠ L := (ne_of_none hL1 hM).symm
        exact .lst (SqL.of (by rw [upd_ne nM]; exact hM2)) (dpA_keep (keepT_nt (nt_lst _) hL2) _ _ (noLs_br _) hus)
    · rintro H1 ⟨s1, fl⟩
      rw [xl, List.take_length] at fl
      have hS1 := fl.dp
      obtain ⟨L', zs, eL, hL1, hzs⟩ := dp_lst hS1
      cases eL
      have zl := dpA_len hzs
      rw [List.length_map] at zl
      refine ⟨_, rfl, L, rfl, ⟨_, hL1⟩, fun Lx hL2 => lc_list (K := K) (a := L) (xs := zs) (fun i H' => Same H1 H' ∧ FL K Lx H' ((C.take i).map fun r => dTg ((sl z r).map (·.2.2)))) ⟨same_new hL2, FL.nil hL2⟩ (fun i H' _ e => same_l e.1 hL1) ?_ ?_⟩
      · rintro i x H2 hi ⟨s2, fl2⟩
        obtain ⟨r, hr1, hx⟩ := dpA_mem hzs hi
        have il := (List.getElem?_eq_some_iff.mp hr1).1
        have okr := ok.row r (List.mem_of_getElem? hr1)
        have fewr := okr.few
        obtain ⟨pr, rs, rfl, hpr, hrs⟩ := dp_lst hx
        have rl := dpA_len hrs
        rw [List.length_map] at rl
        have sll : (sl z r).length ≤ r.length := List.length_filter_le _ _
        obtain ⟨ys, hL22, yl, _⟩ := id fl2.d
        rw [List.length_map, List.length_take] at yl
        refine ⟨rfl, _, rfl, pr, rfl, ⟨_, same_l s2 hpr⟩, fun M hM => lc_list (K := K) (a := pr) (xs := rs) (fun j H' => Same H2 H' ∧ H' M = some (.lst ((((sl z r).map (·.2.2)).take j).map vN))) ⟨same_new hM, upd_same⟩ (fun j H' _ e => same_l (s2.trans e.1) hpr) ?_ ?_⟩
        · rintro j y H3 hj ⟨s3, hM3⟩
          obtain ⟨br, hbr, hy⟩ := dpA_mem (dpA_same (s2.trans s3) _ _ hrs) hj
          have jl := (List.getElem?_eq_some_iff.mp hbr).1
          obtain ⟨pb, x0, x1, rfl, hpb, hd0, hd1⟩ := br_at hy
          have e2 : ((sl z r).map (·.2.2))[j]? = some br.2.2 := by rw [List.getElem?_map, hbr]; rfl
          refine ⟨rfl, _, rfl, pb, _, _, _, rfl, rfl, hpb, atI_nat (j := 2) rfl, _, hM3, by rw [List.length_map, List.length_take]; exact line6 (by omega), same_mut s3 hM, ?_⟩
          rw [upd_same, ← take_map_succ (f := vN) e2]
          rfl
        · rintro H3 ⟨s3, hM3⟩
          rw [rl, ← List.map_take, List.take_length] at hM3
          have hL23 := s3 _ _ hL22
          refine ⟨ys, hL23, line6 (by omega), same_mut (s2.trans s3) hL2, ?_⟩
          rw [take_snoc hr1, List.map_append]
          refine (fl2.same s3).add hL23 fun o => ?_
          have nM : M ≠ Lx := (ne_of_none hL22 hM).symm
          exact .lst (SqL.of (by rw [upd_ne nM]; exact hM3)) (nats_dp _)
      · rintro H2 ⟨s2, fl2⟩
        rw [zl, List.take_length] at fl2
        have hN := fl2.dp
        have en : PyData.list (C.map fun r => dTg ((sl z r).map (·.2.2))) = dNx (nx C z) := by
          unfold dNx nx
          rw [List.map_map]
          rfl
        rw [en] at hN
        have kl : (rk (nx C z)).length = C.length := by
          unfold rk
          rw [fnd_len, nl]
        refine ⟨_, _, rfl, hN, nxOk ok z, fun H3 F s3 hF0 hF => ?_⟩
        refine ⟨_, rfl, F, _, _, _, rfl, rfl, SqL.of hF, vN_at (i := 0) (by rw [kl]; exact pos), _, _, rfl, rfl, _, rfl, ite2 (fun h0 => ?_) (fun h0 => ?_)⟩
        · have g0 : 0 < ga (rk (nx C z)) 0 := by
            have : (0 : Int) < ((ga (rk (nx C z)) 0 : Nat) : Int) := of_decide_eq_true h0
            omega
          refine ⟨_, rfl, F, _, rfl, .inl ⟨SqL.of hF, fun pt hpt => ⟨by show 2 ≤ sizeLine; decide, fun p hp => ?_⟩⟩⟩
          have s4 := same_new (o := .tup ((rk (nx C z)).map vN)) hpt
          have s5 := same_new (o := .tup [.str "sure", .ref pt]) hp
          exact q _ _ _ (s1.trans (s2.trans (s3.trans (s4.trans s5)))) (.inl ⟨g0, rfl⟩) (.tup (SqT.of upd_same) (.cons (.str _) (.cons (.tup (SqT.of (s5 _ _ upd_same)) (nats_dp _)) .nil)))
        · have g0 : ga (rk (nx C z)) 0 = 0 := by
            refine Nat.eq_zero_of_not_pos fun g => h0 ?_
            exact decide_eq_true (show (0 : Int) < ((ga (rk (nx C z)) 0 : Nat) : Int) by omega)
          refine fun pd hpd => ?_
          have s13 := s2.trans s3
          have s03 := s1.trans s13
          have pd0 : H pd = none := by
            cases e : H pd with
            | none => rfl
            | some o =>
              rw [s03 _ _ e] at hpd
              cases hpd
          have hL3 := same_l s13 hL1
          have hzs3 := dpA_same s13 _ _ hzs
          have pk_find : ∀ s, Rank0 C z s → ((sl z (rowOf C s)).filter fun b => decide (ga (rk (nx C z)) b.2.2 = 0))[0]? = some (pk C z s) := fun s r0 => by
            rw [← List.head?_eq_getElem?, List.head?_filter]
            exact (pk_ok ok r0).1
          refine ⟨_, rfl, L, zs, rfl, same_l (same_new hpd) hL3, for_it walk_enum (fun i σ H' => ∃ (kvs : List (L2.Key × V)) (y5 y8 : Option V), σ = [some (.ref pc), some (.str z), some (.ref pq), some (.ref L), none, y5, some (.ref F), some (.ref pd), y8] ∧ Same H3 H' ∧ H' pd = some (.dK kvs) ∧ kvs.length ≤ i ∧ ∀ s, s < i → ga (rk (nx C z)) s = 0 → ∃ v, valV kvs (.inl (s : Int)) = some v ∧ Dp K H3 v (dBr (pk C z s))) ⟨[], _, _, rfl, same_new hpd, upd_same, Nat.le_refl _, fun s h => absurd h (Nat.not_lt_zero s)⟩ (fun i σ H' _ ⟨_, _, _, _, s, _⟩ => same_l s hL3) ?_ ?_⟩
          · rintro i x σ H5 H5' hi ⟨kvs, y5, y8, rfl, s5, hpd5, kl5, hv5⟩ ⟨T', a, y, rfl, hT, rfl, ha, hb⟩
            obtain rfl := Option.some.inj ha
            rw [zl] at hi
            obtain ⟨r, hr1, hx⟩ := dpA_mem hzs3 hb
            have er : rowOf C i = r := by
              unfold rowOf
              rw [hr1]
              rfl
            have okr := ok.row r (List.mem_of_getElem? hr1)
            have fewr := okr.few
            obtain ⟨pr, rs, rfl, hpr, hrs⟩ := dp_lst hx
            have rl := dpA_len hrs
            rw [List.length_map] at rl
            have sll : (sl z r).length ≤ r.length := List.length_filter_le _ _
            have s6 := s5.trans (same_new (o := .tup [V.int (i : Int), .ref pr]) hT)
            have hpd6 := same_new (o := .tup [V.int (i : Int), .ref pr]) hT _ _ hpd5
            have hT6 := upd_same (H := H5) (a := T') (o := .tup [V.int (i : Int), .ref pr])
            generalize upd H5 T' (.tup [V.int (i : Int), .ref pr]) = H6 at s6 hpd6 hT6
            refine ⟨T', _, rfl, SqT.of hT6, rfl, _, _, rfl, _, _, rfl, rfl, ?_⟩
            refine ⟨_, rfl, _, rfl, F, _, _, _, rfl, rfl, SqL.of (s6 _ _ hF), vN_at (by rw [kl]; exact hi), rfl, _, rfl, ?_⟩
            refine ite2 (fun h0 => ?_) (fun h0 => ?_)
            · have gi : ga (rk (nx C z)) i = 0 := by
                have : V.int ((ga (rk (nx C z)) i : Nat) : Int) = V.int 0 := of_decide_eq_true h0
                have := V.int.inj this
                omega
              have r0 : Rank0 C z i := ⟨hi, gi⟩
              have pf := pk_find i r0
              rw [er] at pf
              refine ⟨_, rfl, pr, rfl, ⟨_, same_l s6 hpr⟩, fun M hM => lc_list (K := K) (a := pr) (xs := rs) (fun j H' => Same H6 H' ∧ ∃ us, H' M = some (.lst us) ∧ DpAll K H3 us ((((sl z r).take j).filter fun b => decide (ga (rk (nx C z)) b.2.2 = 0)).map dBr)) ⟨same_new hM, [], upd_same, .nil⟩ (fun j H' _ e => same_l (s6.trans e.1) hpr) ?_ ?_⟩
              · rintro j y H7 hj ⟨s7, us, hM7, hus⟩
                obtain ⟨br, hbr, hy⟩ := dpA_mem hrs hj
                have jl := (List.getElem?_eq_some_iff.mp hbr).1
                have hy' := hy
                obtain ⟨pb, x0, x1, rfl, hpb, hd0, hd1⟩ := br_at hy
                have okb := okr.to br (List.mem_filter.mp (List.mem_of_getElem? hbr)).1
                have ul := dpA_len hus
                rw [List.length_map] at ul
                have fl3 := List.length_filter_le (fun b : Br => decide (ga (rk (nx C z)) b.2.2 = 0)) ((sl z r).take j)
                rw [List.length_take] at fl3
                refine ⟨rfl, _, rfl, _, rfl, pb, _, _, _, rfl, rfl, same_t (s6.trans s7) hpb, atI_nat (j := 2) rfl, F, _, _, _, rfl, rfl, SqL.of ((s6.trans s7) _ _ hF), vN_at (by rw [kl]; exact okb.1), rfl, _, rfl, ?_⟩
                rw [take_snoc hbr, List.filter_append]
                refine ite2 (fun g => ?_) (fun g => ?_)
                · have g' : decide (ga (rk (nx C z)) br.2.2 = 0) = true := by
                    have : V.int ((ga (rk (nx C z)) br.2.2 : Nat) : Int) = V.int 0 := of_decide_eq_true g
                    have := V.int.inj this
                    exact decide_eq_true (by omega)
                  refine ⟨_, rfl, us, hM7, line6 (by omega), same_mut s7 hM, us ++ [.ref pb], upd_same, ?_⟩
                  rw [List.filter_cons_of_pos (p := fun b : Br => decide (ga (rk (nx C z)) b.2.2 = 0)) g', List.filter_nil, List.map_append]
                  exact dpA_snoc hus hy'
                · have g' : ¬ decide (ga (rk (nx C z)) br.2.2 = 0) = true := fun k => g (by
                    have := of_decide_eq_true k
                    show decide (V.int ((ga (rk (nx C z)) br.2.2 : Nat) : Int) = V.int 0) = true
                    rw [this]
                    exact decide_eq_true rfl)
                  refine ⟨s7, us, hM7, ?_⟩
                  rw [List.filter_cons_of_neg (p := fun b : Br => decide (ga (rk (nx C z)) b.2.2 = 0)) g', List.filter_nil, List.append_nil]
                  exact hus
              · rintro H7 ⟨s7, us, hM7, hus⟩
                rw [rl, List.take_length] at hus
                obtain ⟨v, hv, hdv⟩ := dpA_get hus pf
                refine ⟨M, _, _, _, rfl, rfl, SqL.of hM7, atI_nat (j := 0) hv, _, rfl, _, rfl, pd, _, rfl, DPut.k (k := .inl (i : Int)) (s7 _ _ hpd6) (line6 (by omega)), ?_⟩
                refine ⟨_, _, _, rfl, same_mut (s6.trans s7) hpd, upd_same, Nat.le_trans (length_putK _ _ _) (by omega), fun s hs gs => ?_⟩
                rw [valV_put]
                by_cases e : s = i
                · subst e
                  rw [if_pos rfl]
                  exact ⟨v, rfl, hdv⟩
                · rw [if_neg fun k => e (by have := Sum.inl.inj k; omega)]
                  exact hv5 s (by omega) gs
            · refine ⟨_, _, _, rfl, s6, hpd6, by omega, fun s hs gs => ?_⟩
              have e : s ≠ i := fun e => h0 (by
                subst e
                show decide (V.int ((ga (rk (nx C z)) s : Nat) : Int) = V.int 0) = true
                rw [gs]
                exact decide_eq_true rfl)
              exact hv5 s (by omega) gs
          · rintro σ H5 ⟨kvs, y5, y8, rfl, s5, hpd5, kl5, hv5⟩
            rw [zl] at hv5
            refine ⟨_, rfl, pd, b, C, z, kvs, rfl, ok, g0, hpd5, fun s r0 => ?_, fun H6 v a r s6 r0 le cyc dis hv => ?_⟩
            · obtain ⟨v, hv1, hv2⟩ := hv5 s r0.lt r0.r0
              exact ⟨v, hv1, dp_same s5 _ _ hv2⟩
            · obtain ⟨p, us, rfl, hp, hus⟩ := dp_tup hv
              obtain ⟨x0, r0', rfl, hx0, hus⟩ := dpA_cons hus
              obtain ⟨x1, r1', rfl, hx1, hus⟩ := dpA_cons hus
              cases dpA_nil hus
              refine ⟨p, _, rfl, .inl hp, by show 3 ≤ sizeLine; decide, fun pp hpp => ?_⟩
              have s7 := same_new (o := .tup [.str "ring", x0, x1]) hpp
              exact q _ _ _ (s03.trans (s5.trans (s6.trans s7))) (.inr ⟨g0, a, r, r0, le, cyc, dis, rfl⟩) (.tup (SqT.of upd_same) (.cons (.str _) (.cons (dp_same s7 _ _ hx0) (.cons (dp_same s7 _ _ hx1) .nil))))
end
end Mt
namespace Mt
open PySem PySem.Spec PyProof.Rows L2
/-- the inner loop of a comprehension with two for -/
theorem lc2_in {J : It} {n : Nat} {G : Hp → Prop} {Y : Nat → Hp → V → Hp → Prop} (w : Walk J n G Y) {g : TG} {tt : TT} {te : TE} {vs : List Nat} {σ : L2.St} {H1 : Hp} {D : Addr} {Nx : Hp → Prop} (Pv : Nat → Hp → Prop) (h0 : Pv 0 H1) (hG : ∀ i H, i ≤ n → Pv i H → G H)
    (hs : ∀ i x H H', i < n → Pv i H → Y i H x H' → g x (wipe σ vs) H' fun σ2 H2 => wipe σ2 vs = wipe σ vs ∧ tt σ2 H2 fun b H3 =>
      if b = true then te σ2 H3 fun y H4 => ∃ acc, H4 D = some (.lst acc) ∧ acc.length < sizeLine ∧ Pv (i + 1) (upd H4 D (.lst (acc ++ [y]))) else Pv (i + 1) H3) (hd : ∀ H, Pv n H → Nx H) :
    ∃ W : Nat → Nat → Hp → Prop, (∃ m, W 0 m H1) ∧ ∀ i m H, W i m H →
      (J.stop i H ∧ Nx H) ∨ (J.go i H ∧ ∃ Nx : Hp → Prop, (∀ H', Nx H' → ∃ m', m' < m ∧ W (i + 1) m' H') ∧ ∀ x H', J.yld i H x H' → g x (wipe σ vs) H' fun σ2 H2 => wipe σ2 vs = wipe σ vs ∧ tt σ2 H2 fun b H3 =>
        if b = true then te σ2 H3 fun y H4 => ∃ acc, H4 D = some (.lst acc) ∧ acc.length < sizeLine ∧ Nx (upd H4 D (.lst (acc ++ [y]))) else Nx H3) := by
  refine ⟨fun i m H => m = n - i ∧ i ≤ n ∧ Pv i H, ⟨n, by simp, Nat.zero_le _, h0⟩, ?_⟩
  rintro i m H ⟨rfl, hi, p⟩
  have q := hG i H hi p
  by_cases hlt : i < n
  · refine .inr ⟨w.goes i H hlt q, Pv (i + 1), fun H' p' => ⟨n - (i + 1), by omega, rfl, hlt, p'⟩, fun x H' y => hs i x H H' hlt p (w.yields i H x H' hlt q y)⟩
  · have e : i = n := by omega
    subst e
    exact .inl ⟨w.stops H q, hd H p⟩
/-- the outer one -/
theorem lc2_out {J : It} {n : Nat} {G : Hp → Prop} {Y : Nat → Hp → V → Hp → Prop} (w : Walk J n G Y) {g : TG} {tt : TT} {wi1 : TI} {g1 : TG} {tt1 : TT} {te : TE} {vs vs1 : List Nat} {σ : L2.St} {H1 : Hp} {D : Addr} {Qd : Hp → Prop} (Pv : Nat → Hp → Prop) (h0 : Pv 0 (upd H1 D (.lst []))) (hG : ∀ i H, i ≤ n → Pv i H → G H)
    (hs : ∀ i x H H', i < n → Pv i H → Y i H x H' → g x (wipe σ vs) H' fun σ2 H2 => wipe σ2 vs = wipe σ vs ∧ tt σ2 H2 fun b H3 =>
      if b = true then wi1 σ2 H3 fun J1 H4 => ∃ W1 : Nat → Nat → Hp → Prop, (∃ m, W1 0 m H4) ∧ ∀ j k H, W1 j k H →
        (J1.stop j H ∧ Pv (i + 1) H) ∨ (J1.go j H ∧ ∃ Nx1 : Hp → Prop, (∀ H', Nx1 H' → ∃ k', k' < k ∧ W1 (j + 1) k' H') ∧ ∀ x H', J1.yld j H x H' → g1 x (wipe σ2 vs1) H' fun σ3 H5 => wipe σ3 vs1 = wipe σ2 vs1 ∧ tt1 σ3 H5 fun b H6 =>
          if b = true then te σ3 H6 fun y H7 => ∃ acc, H7 D = some (.lst acc) ∧ acc.length < sizeLine ∧ Nx1 (upd H7 D (.lst (acc ++ [y]))) else Nx1 H6)
      else Pv (i + 1) H3) (hd : ∀ H, Pv n H → Qd H) :
    ∃ W : Nat → Nat → Hp → Prop, (∃ m, W 0 m (upd H1 D (.lst []))) ∧ ∀ i m H, W i m H →
      (J.stop i H ∧ Qd H) ∨ (J.go i H ∧ ∃ Nx : Hp → Prop, (∀ H', Nx H' → ∃ m', m' < m ∧ W (i + 1) m' H') ∧ ∀ x H', J.yld i H x H' → g x (wipe σ vs) H' fun σ2 H2 => wipe σ2 vs = wipe σ vs ∧ tt σ2 H2 fun b H3 =>
        if b = true then wi1 σ2 H3 fun J1 H4 => ∃ W1 : Nat → Nat → Hp → Prop, (∃ m, W1 0 m H4) ∧ ∀ j k H, W1 j k H →
          (J1.stop j H ∧ Nx H) ∨ (J1.go j H ∧ ∃ Nx1 : Hp → Prop, (∀ H', Nx1 H' → ∃ k', k' < k ∧ W1 (j + 1) k' H') ∧ ∀ x H', J1.yld j H x H' → g1 x (wipe σ2 vs1) H' fun σ3 H5 => wipe σ3 vs1 = wipe σ2 vs1 ∧ tt1 σ3 H5 fun b H6 =>
            if b = true then te σ3 H6 fun y H7 => ∃ acc, H7 D = some (.lst acc) ∧ acc.length < sizeLine ∧ Nx1 (upd H7 D (.lst (acc ++ [y]))) else Nx1 H6)
        else Nx H3) := by
  refine ⟨fun i m H => m = n - i ∧ i ≤ n ∧ Pv i H, ⟨n, by simp, Nat.zero_le _, h0⟩, ?_⟩
  rintro i m H ⟨rfl, hi, p⟩
  have q := hG i H hi p
  by_cases hlt : i < n
  · refine .inr ⟨w.goes i H hlt q, Pv (i + 1), fun H' p' => ⟨n - (i + 1), by omega, rfl, hlt, p'⟩, fun x H' y => hs i x H H' hlt p (w.yields i H x H' hlt q y)⟩
  · have e : i = n := by omega
    subst e
    exact .inl ⟨w.stops H q, hd H p⟩
def spJRing (K : PySem.W.Frag) : Sp := fun vs H Q _ => ∃ (vc vp : V) (z : Str) (base : Int) (C : Chn) (l m : List Br), vs = [vc, .str z, vp] ∧ Dp K H vc (dChn base C) ∧ ChnOk base C ∧ Dp K H vp (.tuple [dWd l, dWd m]) ∧ Fol C 0 l ∧ Fol C (stA 0 l) m ∧ m ≠ [] ∧ stA (stA 0 l) m = stA 0 l ∧ l.length ≤ 1000 ∧ m.length ≤ 1000 ∧ (∀ b ∈ l, z ∉ b.2.1) ∧ (∀ b ∈ m, z ∉ b.2.1) ∧
  ∀ H', Same H H' → Q (.bl true) H'
theorem any_rep (k : Nat) : (List.replicate k false).any id = false := by
  rw [List.any_eq_false]
  intro x hx
  rw [(List.mem_replicate.mp hx).2]
  decide
section
variable {P : Program} {w : World} {K : PySem.W.Frag} {mg : Str → Option Value} {base : Heap}
theorem ok_judge_ring (T : Txt K mg) (D_ring_along : Kept P w K mg base 2 "ring_along" ["rows", "way", "ring"] (spRAlong K)) {f : Addr} {fd : FuncData} (F : FnP K "judge_ring" s_judge_ring f fd) : FnOk P w K mg base CX0 3 f fd ["chain", "mark", "paper"] (spJRing K) := by
  refine F.ok sc_judge_ring (fun vs H Q E h => ?_) (fun cdv A outer s H vs Q E hr h => ?_)
  · obtain ⟨vc, vp, z, b, C, l, m, rfl, _⟩ := h
    rfl
  · obtain ⟨vc, vp, z, b, C, l, m, rfl, hC, ok, hp, f1, f2, ne, cy, l1, l2, sl1, sl2, q⟩ := h
    refine ⟨_, PSs.nox (pss_cons (ps_asg (pv 2) (pg_tup rfl (pgs_cons (pg_name (i := 3) sc_judge_ring.nd rfl (Or.inl rfl)) (pgs_cons (pg_name (i := 4) sc_judge_ring.nd rfl (Or.inl rfl)) pgs_nil))))
      (pss_cons (ps_set (i := 5) sc_judge_ring.nd rfl (Or.inl rfl) (pe_d D_ring_along (hr.mono (by decide)) (by rfl) (pa_cons (pe_ix ix_tup (pv 0) pe_int (fun _ _ => rfl)) (pa_cons (pv 3) (pa_cons (pv 4) pa_nil)))))
      (pss_cons (ps_if (pt_cmpR op_isN (pv 5) pe_non (nomark _)) (pss_one (ps_ret pe_bl)) pss_nil)
      (pss_one (ps_ret (pe_not (pe_callB (cr_any rfl) (by rfl) T.b_any (by decide +kernel) (pa_cons (pe_lc2 (own := [("part", 6), ("branch", 7)]) (vs1 := [7]) (g := (gName 6)) (g1 := (gName 7)) (tt := tYes) (tt1 := tYes) rfl sc_judge_ring.nd (pi_tup (pv 5)) (blkOk_by (N := N_judge_ring) (sc := defScope s_judge_ring) (by decide +kernel)) (by decide) (fun _ _ _ _ _ => (pg_name (i := 6) sc_judge_ring.nd rfl (Or.inl rfl))) (fun _ _ _ _ _ => pts_nil) (fun _ _ _ _ _ => (piLK (K := K) rfl (pv 6))) (fun _ _ _ _ _ => (pg_name (i := 7) sc_judge_ring.nd rfl (Or.inl rfl))) (fun _ _ _ _ _ => pts_nil) (fun _ _ _ _ _ => (pe_cmpR (inK (K := K) rfl) (pv 1) (pe_ix (ixT (K := K) rfl) (pv 7) pe_int (fun _ _ => rfl)) (by rfl)))) pa_nil)))))))), ?_⟩
    obtain ⟨pc, pq, xs, rfl, hpc, hpq, hA⟩ := chn_at hC
    obtain ⟨pp, us, rfl, hpp, hus⟩ := dp_tup hp
    obtain ⟨x0, r0', rfl, hx0, hus⟩ := dpA_cons hus
    obtain ⟨x1, r1', rfl, hx1, hus⟩ := dpA_cons hus
    cases dpA_nil hus
    refine ⟨_, rfl, _, _, rfl, hpp, rfl, _, _, rfl, _, _, rfl, rfl, ?_⟩
    refine ⟨_, rfl, pc, _, _, _, rfl, rfl, hpc, atI_nat (j := 2) rfl, _, rfl, _, rfl, .ref pq, x0, x1, b, C, l, m, rfl, .tup hpq hA, ok, f1, f2, ne, cy, l1, l2, hx0, hx1, fun H1 v s1 hv => ?_⟩
    obtain ⟨pw, vs, rfl, hpw, hvs⟩ := dp_tup hv
    obtain ⟨y0, r0', rfl, hy0, hvs⟩ := dpA_cons hvs
    obtain ⟨y1, r1', rfl, hy1, hvs⟩ := dpA_cons hvs
    cases dpA_nil hvs
    refine ⟨_, rfl, rfl, _, rfl, ite2 (fun h => (nomatch (show false = true from h))) (fun _ => ?_)⟩
    have part : ∀ (i : Nat) (y : V), [y0, y1][i]? = some y → ∃ k : List Br, Dp K H1 y (.list (k.map dBr)) ∧ k.length ≤ 1000 ∧ ∀ b ∈ k, z ∉ b.2.1 := fun i y h => by
      match i, h with
      | 0, h =>
        obtain rfl := Option.some.inj h
        exact ⟨l, hy0, l1, sl1⟩
      | 1, h =>
        obtain rfl := Option.some.inj h
        exact ⟨m, hy1, l2, sl2⟩
      | i + 2, h => cases h
    refine ⟨_, rfl, pw, rfl, ⟨_, hpw⟩, fun M hM => lc2_out (walk_tup (K := K) (a := pw) (xs := [y0, y1])) (fun i H' => Same H1 H' ∧ ∃ k, k ≤ i * 1000 ∧ H' M = some (.lst (List.replicate k (.bl false)))) ⟨same_new hM, 0, Nat.zero_le _, upd_same⟩ (fun i H' _ e => same_t e.1 hpw) ?_ ?_⟩
    · rintro i y H2 H2' hi ⟨s2, k, hk, hM2⟩ ⟨e2, hy⟩
      subst e2
      obtain ⟨kb, hkb, kl, ks⟩ := part i y hy
      obtain ⟨pk, zs, rfl, hpk, hzs⟩ := dp_lst hkb
      have zl := dpA_len hzs
      rw [List.length_map] at zl
      have i2 : i < 2 := hi
      refine ⟨rfl, _, rfl, pk, rfl, ⟨_, same_l s2 hpk⟩, lc2_in (walk_list (K := K) (a := pk) (xs := zs)) (fun j H' => Same H1 H' ∧ ∃ k, k ≤ i * 1000 + j ∧ H' M = some (.lst (List.replicate k (.bl false)))) ⟨s2, k, hk, hM2⟩ (fun j H' _ e => same_l e.1 hpk) ?_ ?_⟩
      · rintro j x H3 H3' hj ⟨s3, k, hk, hM3⟩ ⟨e3, hx⟩
        subst e3
        obtain ⟨br, hbr, hy⟩ := dpA_mem (dpA_same s3 _ _ hzs) hx
        obtain ⟨pb, u0, u1, rfl, hpb, hd0, hd1⟩ := br_at hy
        obtain ⟨p1, rfl, hp1⟩ := sh_at hd1
        have no := ks br (List.mem_of_getElem? hbr)
        refine ⟨rfl, _, rfl, _, rfl, pb, _, _, _, rfl, rfl, hpb, atI_nat (j := 1) rfl, p1, _, rfl, .inr hp1, rfl, flat_strs _, ?_⟩
        rw [inV_str]
        refine ⟨_, hM3, by rw [List.length_replicate]; exact line6 (by omega), same_mut s3 hM, k + 1, by omega, ?_⟩
        rw [upd_same, List.replicate_succ', decide_eq_false no]
        rfl
      · rintro H3 ⟨s3, k, hk, hM3⟩
        exact ⟨s3, k, by omega, hM3⟩
    · rintro H2 ⟨s2, k, hk, hM2⟩
      refine ⟨M, List.replicate k false, rfl, SqL.of (by rw [List.map_replicate]; exact hM2), ?_⟩
      rw [any_rep]
      exact ⟨_, rfl, q _ (s1.trans s2)⟩
end
end Mt
namespace Mt
open PySem PySem.Spec PyProof.Rows L2
theorem cat_W {K : PySem.W.Frag} {H : Hp} {x y : V} {ds es : List PyData} (hx : Dp K H x (.tuple ds)) (hy : Dp K H y (.tuple es)) (hl : ds.length + es.length ≤ 1000) : rCatA K x y H (fun v H' => Same H H' ∧ Dp K H' v (.tuple (ds ++ es))) := by
  obtain ⟨a, xs, rfl, ha, h1⟩ := dp_tup hx
  obtain ⟨b, ys, rfl, hb, h2⟩ := dp_tup hy
  exact cat_D ha hb h1 h2 hl
theorem arg_eq {α β : Type} {F : α → β → Prop} {x y : α} {b : β} (e : x = y) (h : F y b) : F x b := e ▸ h
def spSil (K : PySem.W.Frag) : Sp := fun vs H Q _ => ∃ (vc vw vg : V) (z : Str) (base : Int) (C : Chn) (l m : List Br), vs = [vc, .str z, vw, vg] ∧ Dp K H vc (dChn base C) ∧ ChnOk base C ∧ Dp K H vw (dWd l) ∧ Dp K H vg (dWd m) ∧ Fol C 0 l ∧ Fol C (stA 0 l) m ∧ m ≠ [] ∧ stA (stA 0 l) m = stA 0 l ∧ l.length + m.length ≤ 50 ∧ (∀ b ∈ l, z ∉ b.2.1) ∧ (∀ b ∈ m, z ∉ b.2.1) ∧
  ∀ H', Same H H' → Q (.bl true) H'
theorem flatD_len {l : List Br} (h : ∀ b ∈ l, b.1.length ≤ 3) : (flatD l).length ≤ 3 * l.length := by
  induction l with
  | nil => exact Nat.le_refl _
  | cons b r ih =>
    have h1 := h b List.mem_cons_self
    have h2 := ih fun x hx => h x (List.mem_cons_of_mem _ hx)
    show (b.1 ++ flatD r).length ≤ _
    rw [List.length_append, List.length_cons]
    omega
theorem fol_short {base : Int} {C : Chn} (ok : ChnOk base C) {s : Nat} (hs : s < C.length) {l : List Br} (h : Fol C s l) : ∀ b ∈ l, b.1.length ≤ 3 := fun b hb => by
  obtain ⟨i, hi⟩ := List.mem_iff_getElem?.mp hb
  have il := (List.getElem?_eq_some_iff.mp hi).1
  have lt := fol_lt ok hs h i (by omega)
  have okr := ok.row _ (List.mem_of_getElem? (rowOf_at lt))
  exact okr.cm.short b.1 (List.mem_map.mpr ⟨b, h i b hi, rfl⟩)
theorem flatD_snoc (l : List Br) (b : Br) : flatD (l ++ [b]) = flatD l ++ b.1 := by
  rw [flatD_append]
  show _ ++ (b.1 ++ []) = _
  rw [List.append_nil]
theorem dI_app (a b : List Int) : PyData.tuple (a.map PyData.int ++ b.map PyData.int) = dI (a ++ b) := by
  unfold dI
  rw [List.map_append]
section
variable {P : Program} {w : World} {K : PySem.W.Frag} {mg : Str → Option Value} {base : Heap}
theorem ok__law_is_silent (T : Txt K mg) (D_walk : Kept P w K mg base 2 "walk" ["chain", "tape", "ticks"] (spWalk K)) (D__law_end : Kept P w K mg base 1 "_law_end" ["chain", "start", "blocks", "mark"] (spEnd K)) {f : Addr} {fd : FuncData} (F : FnP K "_law_is_silent" s__law_is_silent f fd) : FnOk P w K mg base CX0 3 f fd ["chain", "mark", "way", "ring"] (spSil K) := by
  refine F.ok sc__law_is_silent (fun vs H Q E h => ?_) (fun cdv A outer s H vs Q E hr h => ?_)
  · obtain ⟨vc, vw, vg, z, b, C, l, m, rfl, _⟩ := h
    rfl
  · obtain ⟨vc, vw, vg, z, b, C, l, m, rfl, hC, ok, hw, hg, f1, f2, ne, cy, few, sl1, sl2, q⟩ := h
    refine ⟨_, PSs.nox (pss_cons (ps_set (i := 4) sc__law_is_silent.nd rfl (Or.inl rfl) (pe_d D__law_end (hr.mono (by decide)) (by rfl) (pa_cons (pv 0) (pa_cons pe_int (pa_cons (pv 2) (pa_cons (pv 1) pa_nil))))))
      (pss_cons (ps_if (PW.pt (pw_or (pt_cmpR op_isN (pv 4) pe_non (nomark _)) (pw_or (pt_cmpR op_eq (pe_callB call_len (by rfl) T.b_len (by decide +kernel) (pa_cons (pv 3) pa_nil)) pe_int (nomark _)) (pw_or1 (pt_cmpR op_ne (pe_d D__law_end (hr.mono (by decide)) (by rfl) (pa_cons (pv 0) (pa_cons (pv 4) (pa_cons (pv 3) (pa_cons (pv 1) pa_nil))))) (pv 4) (nomark _)))))) (pss_one (ps_ret pe_bl)) pss_nil)
      (pss_cons (ps_set (i := 5) sc__law_is_silent.nd rfl (Or.inl rfl) (pe_tup pa_nil))
      (pss_cons (ps_for PassesOwn.never rfl (pi_tup (pe_op op_catA (pe_op op_catA (pe_op op_catA (pv 2) (pv 3)) (pv 3)) (pv 3))) (pg_name (i := 6) sc__law_is_silent.nd rfl (Or.inl rfl)) (pss_one (ps_set (i := 5) sc__law_is_silent.nd rfl (Or.inl rfl) (pe_op op_catA (pv 5) (pv 6)))))
      (pss_cons (ps_set (i := 7) sc__law_is_silent.nd rfl (Or.inl rfl) (pe_op op_add (pe_callB call_len (by rfl) T.b_len (by decide +kernel) (pa_cons (pv 2) pa_nil)) (pe_op op_mul pe_int (pe_callB call_len (by rfl) T.b_len (by decide +kernel) (pa_cons (pv 3) pa_nil)))))
      (pss_cons (ps_set (i := 8) sc__law_is_silent.nd rfl (Or.inl rfl) (pe_d D_walk (hr.mono (by decide)) (by rfl) (pa_cons (pv 0) (pa_cons (pe_op op_catA (pv 5) (pe_tup (pa_cons pe_int pa_nil))) (pa_cons (pv 7) pa_nil)))))
      (pss_cons (ps_if (PW.pt (pw_or (pt_not (pt_val (pe_callB call_isi (by rfl) T.b_isinstance (by decide +kernel) (pa_cons (pv 8) (pa_cons (pe_bltn (v := .ty "tuple") (u := .type "tuple") (by rfl) T.b_tuple (by decide +kernel) rfl) pa_nil))))) (pw_or (pt_cmpR op_ne (pe_callB call_len (by rfl) T.b_len (by decide +kernel) (pa_cons (pv 8) pa_nil)) pe_int (nomark _)) (pw_or1 (pt_not (pt_val (pe_callB call_isi (by rfl) T.b_isinstance (by decide +kernel) (pa_cons (pe_ix ix_tup (pv 8) pe_int (fun _ _ => rfl)) (pa_cons (pe_bltn (v := .ty "tuple") (u := .type "tuple") (by rfl) T.b_tuple (by decide +kernel) rfl) pa_nil))))))))) (pss_one (ps_ret pe_bl)) pss_nil)
      (pss_cons (ps_if (PW.pt (pw_or (pt_cmpR op_ne (pe_callB call_len (by rfl) T.b_len (by decide +kernel) (pa_cons (pe_ix ix_tup (pv 8) pe_int (fun _ _ => rfl)) pa_nil)) (pv 7) (nomark _)) (pw_or (pt_cmpR op_ne (pe_ix ix_tup (pv 8) pe_int (fun _ _ => rfl)) (pv 4) (nomark _)) (pw_or1 (pt_cmpR op_ne (pe_ix ix_tup (pv 8) pe_int (fun _ _ => rfl)) (pe_callB call_len (by rfl) T.b_len (by decide +kernel) (pa_cons (pv 5) pa_nil)) (nomark _)))))) (pss_one (ps_ret pe_bl)) pss_nil)
      (pss_one (ps_ret (pe_cmpR op_eq (pe_callB call_len (by rfl) T.b_len (by decide +kernel) (pa_cons (pe_lc (own := [("shown", 9)]) (g := (gName 9)) rfl sc__law_is_silent.nd (pi_tup (pe_ix ix_tup (pv 8) pe_int (fun _ _ => rfl))) (blkOk_by (N := N__law_is_silent) (sc := defScope s__law_is_silent) (by decide +kernel)) (fun _ _ _ _ _ => (pg_name (i := 9) sc__law_is_silent.nd rfl (Or.inl rfl))) (fun _ _ _ _ _ => (pts_one (pt_cmpR (inK (K := K) rfl) (pv 1) (pv 9) (by rfl)))) (fun _ _ _ _ _ => (pv 9))) pa_nil)) pe_int (nomark _)))))))))))), ?_⟩
    have lt1 : stA 0 l < C.length := by
      have := fol_lt ok ok.pos f1 l.length (Nat.le_refl _)
      rw [List.take_length] at this
      exact this
    obtain ⟨L4, hL4⟩ : ∃ L4, L4 = l ++ m ++ m ++ m := ⟨_, rfl⟩
    have e12 : stA 0 (l ++ m) = stA 0 l := by rw [stA_append, cy]
    have e123 : stA 0 (l ++ m ++ m) = stA 0 l := by rw [stA_append, e12, cy]
    have fol4 : Fol C 0 L4 := by
      rw [hL4]
      refine Fol.append (Fol.append (Fol.append f1 f2) ?_) ?_
      · rw [e12]
        exact f2
      · rw [e123]
        exact f2
    have st4 : stA 0 L4 = stA 0 l := by
      rw [hL4, stA_append, e123, cy]
    have len4 : L4.length = l.length + 3 * m.length := by
      rw [hL4, List.length_append, List.length_append, List.length_append]
      omega
    have sil4 : ∀ b ∈ L4, z ∉ b.2.1 := fun b hb => by
      rw [hL4] at hb
      rcases List.mem_append.mp hb with hb | hb
      · rcases List.mem_append.mp hb with hb | hb
        · rcases List.mem_append.mp hb with hb | hb
          · exact sl1 b hb
          · exact sl2 b hb
        · exact sl2 b hb
      · exact sl2 b hb
    have short4 := fol_short ok ok.pos fol4
    obtain ⟨pc, pq, xs, rfl, hpc, hpq, hA⟩ := chn_at (id hC)
    obtain ⟨pw, ws, rfl, hpw, hws⟩ := dp_tup (id hw)
    obtain ⟨pg, gs, rfl, hpg, hgs⟩ := dp_tup (id hg)
    have wl := dpA_len hws
    rw [List.length_map] at wl
    have gl := dpA_len hgs
    rw [List.length_map] at gl
    have g0 : 0 < m.length := List.length_pos_iff.mpr ne
    refine ⟨_, rfl, _, rfl, _, rfl, .ref pc, .ref pw, 0, z, b, C, l, rfl, hC, ok, ok.pos, f1, sl1, by omega, hw, fun H1 s1 => ?_⟩
    refine ⟨_, rfl, rfl, _, rfl, ite2 (fun h => (nomatch (show false = true from h))) (fun _ => ?_)⟩
    refine ⟨_, rfl, _, _, rfl, .inr ⟨_, same_t s1 hpg, rfl⟩, rfl, _, rfl, ite2 (fun h => absurd h ?_) (fun _ => ?_)⟩
    · have : gs.length ≠ 0 := by omega
      simpa using this
    refine ⟨_, rfl, _, rfl, _, rfl, _, rfl, .ref pc, .ref pg, stA 0 l, z, b, C, m, rfl, dp_same s1 _ _ hC, ok, lt1, f2, sl2, by omega, dp_same s1 _ _ hg, fun H2 s2 => ?_⟩
    rw [cy]
    have s12 := s1.trans s2
    refine ⟨_, rfl, rfl, _, rfl, ite2 (fun h => absurd h (by simp)) (fun _ => ?_)⟩
    refine ⟨Nat.zero_le _, fun pt hpt => ?_⟩
    have s3 := s12.trans (same_new (o := .tup []) hpt)
    have hpt3 := upd_same (H := H2) (a := pt) (o := .tup [])
    generalize upd H2 pt (.tup []) = H3 at s3 hpt3
    refine ⟨_, rfl, _, rfl, catA_mono (cat_W (dp_same s3 _ _ hw) (dp_same s3 _ _ hg) (by rw [List.length_map, List.length_map]; omega)) fun v4 H4 hh => ?_⟩
    obtain ⟨s4, hv4⟩ := hh
    refine ⟨_, rfl, catA_mono (cat_W hv4 (dp_same (s3.trans s4) _ _ hg) (by rw [List.length_append, List.length_map, List.length_map]; omega)) fun v5 H5 hh => ?_⟩
    obtain ⟨s5, hv5⟩ := hh
    refine ⟨_, rfl, catA_mono (cat_W hv5 (dp_same ((s3.trans s4).trans s5) _ _ hg) (by rw [List.length_append, List.length_append, List.length_map, List.length_map]; omega)) fun v6 H6 hh => ?_⟩
    obtain ⟨s6, hv6⟩ := hh
    have s06 := ((s3.trans s4).trans s5).trans s6
    have s36 := (s4.trans s5).trans s6
    have hv6 : Dp K H6 v6 (.tuple (L4.map fun b => dI b.1)) := by
      rw [hL4, List.map_append, List.map_append, List.map_append]
      exact hv6
    obtain ⟨p6, ys, rfl, hp6, hys⟩ := dp_tup hv6
    have yl := dpA_len hys
    rw [List.length_map] at yl
    refine ⟨p6, rfl, ⟨_, hp6⟩, for_tup (K := K) (a := p6) (xs := ys) (fun i σ H' => ∃ (y6 : Option V) (vt : V), σ = [some (.ref pc), some (.str z), some (.ref pw), some (.ref pg), some (.int (stA 0 l : Nat)), some vt, y6, none, none, none] ∧ Same H6 H' ∧ Dp K H' vt (dI (flatD (L4.take i)))) ⟨_, _, rfl, Same.refl _, .tup (SqT.of (s36 _ _ hpt3)) .nil⟩ (fun i σ H' _ ⟨_, _, _, s, _⟩ => same_t s hp6) ?_ ?_⟩
    · rintro i y σ H7 hi ⟨y6, vt, rfl, s7, hvt⟩
      obtain ⟨br, hbr, hy⟩ := dpA_mem (dpA_same s7 _ _ hys) hi
      have il := (List.getElem?_eq_some_iff.mp hbr).1
      have fl := flatD_len (l := L4.take i) fun b hb => short4 b (List.mem_of_mem_take hb)
      rw [List.length_take] at fl
      have sb := short4 br (List.mem_of_getElem? hbr)
      refine ⟨_, rfl, _, rfl, catA_mono (cat_W hvt hy (by rw [List.length_map, List.length_map]; omega)) fun v8 H8 ⟨s8, hv8⟩ => ?_⟩
      rw [dI_app, ← flatD_snoc, ← take_snoc hbr] at hv8
      exact ⟨_, _, rfl, s7.trans s8, hv8⟩
    · rintro σ H7 ⟨y6, vt, rfl, s7, hvt⟩
      rw [yl, List.take_length] at hvt
      have s07 := s06.trans s7
      have fl := flatD_len short4
      have en : (ws.length : Int) + 3 * (gs.length : Int) = ((L4.length : Nat) : Int) := by
        rw [len4, wl, gl]
        omega
      refine ⟨_, rfl, _, _, rfl, .inr ⟨_, same_t s07 hpw, rfl⟩, _, rfl, _, _, rfl, .inr ⟨_, same_t s07 hpg, rfl⟩, _, _, rfl, rfl, .inl ⟨by decide, by decide⟩, _, _, rfl, rfl, ?_⟩
      show gName 7 (V.int ((ws.length : Int) + 3 * (gs.length : Int))) _ _ _
      rw [en]
      obtain ⟨p7, ts, ht7, hp7, hts⟩ := dp_tup (id hvt)
      subst ht7
      refine ⟨_, rfl, _, rfl, by show 1 ≤ sizeLine; decide, fun p0 hp0 => ?_⟩
      have s8 := same_new (o := .tup [.int 0]) hp0
      have hp08 := upd_same (H := H7) (a := p0) (o := .tup [.int 0])
      generalize upd H7 p0 (.tup [.int 0]) = H8 at s8 hp08
      have h0d : Dp K H8 (.ref p0) (.tuple ([(0 : Int)].map PyData.int)) := .tup (SqT.of hp08) (.cons (.int 0) .nil)
      refine catA_mono (cat_W (dp_same s8 _ _ hvt) h0d (by rw [List.length_map, List.length_map]; show _ + 1 ≤ _; omega)) fun v9 H9 ⟨s9, hv9⟩ => ?_
      rw [dI_app] at hv9
      have s09 := s07.trans (s8.trans s9)
      have wf := wk_fol ok fol4 [0] L4.length (Nat.le_refl _)
      rw [List.take_length, st4] at wf
      refine ⟨_, rfl, .ref pc, v9, L4.length, b, C, _, _, rfl, dp_same s09 _ _ hC, ok, hv9, by omega, by rw [List.length_append]; show _ + 1 ≤ _; omega, wf, fun H10 v s10 hv => ?_⟩
      obtain ⟨p, xs', rfl, h1, hA1⟩ := dp_tup hv
      obtain ⟨x0, r0, rfl, hx0, hA1⟩ := dpA_cons hA1
      obtain ⟨x1, r1, rfl, hx1, hA1⟩ := dpA_cons hA1
      obtain ⟨x2, r2, rfl, hx2, hA1⟩ := dpA_cons hA1
      cases dpA_nil hA1
      obtain rfl := dp_int hx1
      obtain rfl := dp_int hx2
      obtain ⟨pp, zs, rfl, hpp, hzs⟩ := dp_tup hx0
      have zl := dpA_len hzs
      rw [List.length_map, List.length_map] at zl
      have tl := dpA_len hts
      rw [List.length_map] at tl
      have s710 := s8.trans (s9.trans s10)
      refine ⟨_, rfl, _, .ty "tuple", .type "tuple", .type "tuple", true, rfl, .ty _, sqt_ty h1, kit_ty (by decide +kernel), true, rfl, iteNT ?_⟩
      refine ⟨_, rfl, _, _, rfl, .inr ⟨_, h1, rfl⟩, rfl, _, rfl, ite2 (fun h => absurd h (by show ¬ (!decide (V.int ((3 : Nat) : Int) = V.int 3)) = true; decide)) (fun _ => ?_)⟩
      refine ⟨_, rfl, p, _, _, _, rfl, rfl, h1, atI_nat (j := 0) rfl, _, .ty "tuple", .type "tuple", .type "tuple", true, rfl, .ty _, sqt_ty hpp, kit_ty (by decide +kernel), true, rfl, iteNT ?_⟩
      refine ⟨_, rfl, p, _, _, _, rfl, rfl, h1, atI_nat (j := 0) rfl, _, _, rfl, .inr ⟨_, hpp, rfl⟩, _, rfl, rfl, _, rfl, ite2 (fun h => absurd h ?_) (fun _ => ?_)⟩
      · rw [zl]
        simp
      refine ⟨_, rfl, p, _, _, _, rfl, rfl, h1, atI_nat (j := 1) rfl, _, rfl, rfl, _, rfl, ite2 (fun h => absurd h (by simp)) (fun _ => ?_)⟩
      refine ⟨_, rfl, p, _, _, _, rfl, rfl, h1, atI_nat (j := 2) rfl, _, rfl, _, _, rfl, .inr ⟨_, same_t s710 hp7, rfl⟩, rfl, _, rfl, ite2 (fun h => absurd h ?_) (fun _ => ?_)⟩
      · rw [tl]
        simp
      refine ⟨_, rfl, p, _, _, _, rfl, rfl, h1, atI_nat (j := 0) rfl, pp, rfl, ⟨_, hpp⟩, fun M hM => lc_tup (K := K) (a := pp) (xs := zs) (fun j H' => Same H10 H' ∧ H' M = some (.lst [])) ⟨same_new hM, upd_same⟩ (fun j H' _ e => same_t e.1 hpp) ?_ ?_⟩
      · rintro j y H11 hj ⟨s11, hM11⟩
        obtain ⟨sj, hsj, hy⟩ := dpA_mem (dpA_same s11 _ _ hzs) hj
        obtain ⟨p1, rfl, hp1⟩ := sh_at hy
        have no : z ∉ sj := by
          rw [List.getElem?_map] at hsj
          obtain ⟨bb, hbb, rfl⟩ := Option.map_eq_some_iff.mp hsj
          exact sil4 bb (List.mem_of_getElem? hbb)
        refine ⟨rfl, _, rfl, _, rfl, p1, _, rfl, .inr hp1, rfl, flat_strs _, _, rfl, ?_⟩
        rw [inV_str]
        refine ite2 (fun h2 => absurd (of_decide_eq_true h2) no) (fun _ => ⟨s11, hM11⟩)
      · rintro H11 ⟨s11, hM11⟩
        exact ⟨_, _, rfl, .inl ⟨_, SqL.of hM11, rfl⟩, rfl, q _ (s09.trans (s10.trans s11))⟩
end
end Mt
namespace Mt
open PySem PySem.Spec PyProof.Rows L2
def spAsked (K : PySem.W.Frag) : Sp := fun vs H Q _ => ∃ (S D : Addr) (vc : V) (z : Str) (base : Int) (C : Chn), vs = [.ref D, vc, .str z] ∧ DrawAt S D H ∧ Dp K H vc (dChn base C) ∧ ChnOk base C ∧ ∀ H', Go S D H H' → Q (.bl true) H'
theorem dN_I (l : List Nat) : dN l = dI (l.map fun k : Nat => (k : Int)) := by
  unfold dN dI
  rw [List.map_map]
  rfl
theorem dN_sh (l : List Nat) : SeqAt.shaped (dN l) = true := by
  rw [dN_I]
  exact dI_sh _
theorem dN_eq (l : List Nat) : PyData.eqv (dN l) (dN l) = true := by
  rw [dN_I, eqv_I]
  exact decide_eq_true rfl
theorem dWd_I (l : List Br) : dWd l = .tuple ((l.map (·.1)).map dI) := by
  unfold dWd
  rw [List.map_map]
  rfl
section
variable {P : Program} {w : World} {K : PySem.W.Frag} {mg : Str → Option Value} {base : Heap}
theorem ok__law_asked (T : Txt K mg) (D_latest : Kept P w K mg base 2 "latest" ["chain", "mark"] (spLatest K)) (D_judge_ranks : Kept P w K mg base 2 "judge_ranks" ["chain", "mark", "ranks"] (spJRanks K)) (D_judge_ring : Kept P w K mg base 3 "judge_ring" ["chain", "mark", "paper"] (spJRing K)) (D__law_is_ints : Kept P w K mg base 2 "_law_is_ints" ["row"] (spIsInts K)) (D__law_longest : Kept P w K mg base 1 "_law_longest" ["chain", "mark"] (spLLong K)) (D__law_is_bool : Kept P w K mg base 1 "_law_is_bool" ["told", "due"] spIsBool) (D__law_is_blocks : Kept P w K mg base 3 "_law_is_blocks" ["row"] (spBlocks K)) (D__law_is_silent : Kept P w K mg base 3 "_law_is_silent" ["chain", "mark", "way", "ring"] (spSil K)) (D__law_comes : Kept P w K mg base 3 "_law_comes" ["d", "chain", "mark", "rank"] (spComes K)) {f : Addr} {fd : FuncData} (F : FnP K "_law_asked" s__law_asked f fd) : FnOk P w K mg base CX0 4 f fd ["d", "chain", "mark"] (spAsked K) := by
  refine F.ok sc__law_asked (fun vs H Q E h => ?_) (fun cdv A outer s H vs Q E hr h => ?_)
  · obtain ⟨S, D, vc, z, b, C, rfl, _⟩ := h
    rfl
  · obtain ⟨S, D, vc, z, b, C, rfl, d, hC, ok, q⟩ := h
    refine ⟨_, PSs.nox (pss_cons (ps_set (i := 3) sc__law_asked.nd rfl (Or.inl rfl) (pe_d D__law_longest (hr.mono (by decide)) (by rfl) (pa_cons (pv 1) (pa_cons (pv 2) pa_nil))))
      (pss_cons (ps_set (i := 4) sc__law_asked.nd rfl (Or.inl rfl) (pe_d D_latest (hr.mono (by decide)) (by rfl) (pa_cons (pv 1) (pa_cons (pv 2) pa_nil))))
      (pss_cons (ps_if (PW.pt (pw_or (pt_not (pt_val (pe_callB call_isi (by rfl) T.b_isinstance (by decide +kernel) (pa_cons (pv 4) (pa_cons (pe_bltn (v := .ty "tuple") (u := .type "tuple") (by rfl) T.b_tuple (by decide +kernel) rfl) pa_nil))))) (pw_or (pt_cmpR op_eq (pe_callB call_len (by rfl) T.b_len (by decide +kernel) (pa_cons (pv 4) pa_nil)) pe_int (nomark _)) (pw_or1 (pt_not (pt_val (pe_callB call_isi (by rfl) T.b_isinstance (by decide +kernel) (pa_cons (pe_ix ix_tup (pv 4) pe_int (fun _ _ => rfl)) (pa_cons (pe_bltn (v := .ty "str") (u := .type "str") (by rfl) T.b_str (by decide +kernel) rfl) pa_nil))))))))) (pss_one (ps_ret pe_bl)) pss_nil)
      (pss_cons (ps_if (pt_cmpR op_gt (pe_ix ix_tup (pv 3) pe_int (fun _ _ => rfl)) pe_int (nomark _)) (pss_cons (ps_if (PW.pt (pw_or (pt_cmpR op_ne (pe_callB call_len (by rfl) T.b_len (by decide +kernel) (pa_cons (pv 4) pa_nil)) pe_int (nomark _)) (pw_or (pt_cmpR op_ne (pe_ix ix_tup (pv 4) pe_int (fun _ _ => rfl)) pe_str (nomark _)) (pw_or (pt_not (pt_val (pe_d D__law_is_ints (hr.mono (by decide)) (by rfl) (pa_cons (pe_ix ix_tup (pv 4) pe_int (fun _ _ => rfl)) pa_nil)))) (pw_or1 (pt_cmpR (op_neD (hr.units)) (pe_ix ix_tup (pv 4) pe_int (fun _ _ => rfl)) (pv 3) (nomark _))))))) (pss_one (ps_ret pe_bl)) pss_nil)
      (pss_one (ps_ret (pe_and (pe_d D__law_is_bool (hr.mono (by decide)) (by rfl) (pa_cons (pe_d D_judge_ranks (hr.mono (by decide)) (by rfl) (pa_cons (pv 1) (pa_cons (pv 2) (pa_cons (pe_ix ix_tup (pv 4) pe_int (fun _ _ => rfl)) pa_nil)))) (pa_cons pe_bl pa_nil))) (pe_one (pe_d D__law_comes (hr.mono (by decide)) (by rfl) (pa_cons (pv 0) (pa_cons (pv 1) (pa_cons (pv 2) (pa_cons (pe_ix ix_tup (pv 3) pe_int (fun _ _ => rfl)) pa_nil)))))))))) pss_nil)
      (pss_cons (ps_if (PW.pt (pw_or (pt_cmpR op_ne (pe_callB call_len (by rfl) T.b_len (by decide +kernel) (pa_cons (pv 4) pa_nil)) pe_int (nomark _)) (pw_or (pt_cmpR op_ne (pe_ix ix_tup (pv 4) pe_int (fun _ _ => rfl)) pe_str (nomark _)) (pw_or (pt_not (pt_val (pe_d D__law_is_blocks (hr.mono (by decide)) (by rfl) (pa_cons (pe_ix ix_tup (pv 4) pe_int (fun _ _ => rfl)) pa_nil)))) (pw_or1 (pt_not (pt_val (pe_d D__law_is_blocks (hr.mono (by decide)) (by rfl) (pa_cons (pe_ix ix_tup (pv 4) pe_int (fun _ _ => rfl)) pa_nil))))))))) (pss_one (ps_ret pe_bl)) pss_nil)
      (pss_cons (ps_if (pt_not (pt_val (pe_d D__law_is_silent (hr.mono (by decide)) (by rfl) (pa_cons (pv 1) (pa_cons (pv 2) (pa_cons (pe_ix ix_tup (pv 4) pe_int (fun _ _ => rfl)) (pa_cons (pe_ix ix_tup (pv 4) pe_int (fun _ _ => rfl)) pa_nil))))))) (pss_one (ps_ret pe_bl)) pss_nil)
      (pss_cons (ps_if (pt_not (pt_val (pe_d D__law_is_bool (hr.mono (by decide)) (by rfl) (pa_cons (pe_d D_judge_ring (hr.mono (by decide)) (by rfl) (pa_cons (pv 1) (pa_cons (pv 2) (pa_cons (pe_tup (pa_cons (pe_ix ix_tup (pv 4) pe_int (fun _ _ => rfl)) (pa_cons (pe_ix ix_tup (pv 4) pe_int (fun _ _ => rfl)) pa_nil))) pa_nil)))) (pa_cons pe_bl pa_nil))))) (pss_one (ps_ret pe_bl)) pss_nil)
      (pss_one (ps_ret (pe_d D__law_is_bool (hr.mono (by decide)) (by rfl) (pa_cons (pe_d D_judge_ranks (hr.mono (by decide)) (by rfl) (pa_cons (pv 1) (pa_cons (pv 2) (pa_cons (pv 3) pa_nil)))) (pa_cons pe_bl pa_nil)))))))))))), ?_⟩
    have few := ok.few
    have pos := ok.pos
    have nl : (nx C z).length = C.length := by
      unfold nx
      rw [List.length_map]
    have kl : (rk (nx C z)).length = C.length := by
      unfold rk
      rw [fnd_len, nl]
    refine ⟨_, rfl, _, rfl, vc, z, b, C, rfl, hC, ok, fun H1 pr s1 hpr => ?_⟩
    refine ⟨_, rfl, _, rfl, vc, z, b, C, rfl, dp_same s1 _ _ hC, ok, fun H2 v dd s2 hLat hv => ?_⟩
    have s12 := s1.trans s2
    have hpr2 := s2 _ _ hpr
    have d2 := (Go.same d s12).1
    have g2 := Go.same d s12
    have hC2 := dp_same s12 _ _ hC
    rcases hLat with ⟨g0, rfl⟩ | ⟨g0, a, r, r0, le, cyc, dis, rfl⟩
    · obtain ⟨p, us, rfl, h1, hus⟩ := dp_tup hv
      obtain ⟨x0, r0', rfl, hx0, hus⟩ := dpA_cons hus
      obtain ⟨x1, r1', rfl, hx1, hus⟩ := dpA_cons hus
      cases dpA_nil hus
      obtain rfl := dp_str hx0
      obtain ⟨pk, ks, rfl, hpk, hks⟩ := dp_tup (id hx1)
      obtain rfl := dp_nats hks
      refine ⟨_, rfl, _, .ty "tuple", .type "tuple", .type "tuple", true, rfl, .ty _, sqt_ty h1, kit_ty (by decide +kernel), true, rfl, iteNT ?_⟩
      refine ⟨_, rfl, _, _, rfl, .inr ⟨_, h1, rfl⟩, rfl, _, rfl, ite2 (fun h => absurd h (by show ¬ decide (V.int ((2 : Nat) : Int) = V.int 0) = true; decide)) (fun _ => ?_)⟩
      refine ⟨_, rfl, p, _, _, _, rfl, rfl, h1, atI_nat (j := 0) rfl, _, .ty "str", .type "str", .type "str", true, rfl, .ty _, .base (.str _), kit_ty (by decide +kernel), true, rfl, iteNT ?_⟩
      refine ⟨_, rfl, pr, _, _, _, rfl, rfl, SqT.of hpr2, vN_at (i := 0) (by rw [kl]; exact pos), _, _, rfl, rfl, _, rfl, ite2 (fun _ => ?_) (fun h => absurd (decide_eq_true (show (0 : Int) < ((ga (rk (nx C z)) 0 : Nat) : Int) by omega)) h)⟩
      refine ⟨_, rfl, _, _, rfl, .inr ⟨_, h1, rfl⟩, rfl, _, rfl, ite2 (fun h => absurd h (by show ¬ (!decide (V.int ((2 : Nat) : Int) = V.int 2)) = true; decide)) (fun _ => ?_)⟩
      refine ⟨_, rfl, p, _, _, _, rfl, rfl, h1, atI_nat (j := 0) rfl, rfl, _, rfl, ite2 (fun h => absurd h (by show ¬ (!decide (V.str "sure" = V.str "sure")) = true; decide)) (fun _ => ?_)⟩
      refine ⟨_, rfl, p, _, _, _, rfl, rfl, h1, atI_nat (j := 1) rfl, pk, (rk (nx C z)).map fun k : Nat => (k : Int), rfl, by rw [List.map_map]; exact hpk, by rw [List.length_map]; omega, fun H3 s3 => ⟨true, rfl, iteNT ?_⟩⟩
      refine ⟨_, rfl, p, _, _, _, rfl, rfl, same_t s3 h1, atI_nat (j := 1) rfl, _, rfl, dN (rk (nx C z)), dN (rk (nx C z)), dp_same s3 _ _ hx1, .tup (SqT.of (s3 _ _ hpr2)) (nats_dp _), dN_sh _, dN_sh _, ?_⟩
      have hC3 := dp_same s3 _ _ hC2
      have d3 := (Go.same d2 s3).1
      have g3 := g2.trans (Go.same d2 s3)
      refine ⟨_, rfl, ite2 (fun h => absurd h (by rw [dN_eq]; decide)) (fun _ => ?_)⟩
      refine ⟨_, rfl, _, rfl, _, rfl, p, _, _, _, rfl, rfl, same_t s3 h1, atI_nat (j := 1) rfl, vc, z, pk, b, C, rfl, hC3, ok, same_t s3 hpk, fun H4 s4 => ⟨_, true, rfl, ?_⟩⟩
      rw [decide_eq_true g0]
      have hC4 := dp_same s4 _ _ hC3
      have g4 := g3.trans (Go.same d3 s4)
      refine ⟨_, rfl, ite2 (fun _ => ?_) (fun h => absurd rfl h)⟩
      exact ⟨_, rfl, _, rfl, _, rfl, _, rfl, pr, _, _, _, rfl, rfl, SqT.of (s4 _ _ (s3 _ _ hpr2)), vN_at (i := 0) (by rw [kl]; exact pos), S, D, vc, z, b, C, rfl, g4.1, hC4, ok, g0, fun H5 g5 => q _ (g4.trans g5)⟩
    · obtain ⟨l, hl⟩ : ∃ l, l = seg C z 0 a := ⟨_, rfl⟩
      obtain ⟨m, hm⟩ : ∃ m, m = seg C z a r := ⟨_, rfl⟩
      have f1 : Fol C 0 l := by
        rw [hl]
        exact seg_fol ok g0 0 a
      have e1 : stA 0 l = stS C z a := by
        have := seg_st C z 0 a
        rw [Nat.zero_add] at this
        rw [hl]
        exact this
      have f2 : Fol C (stA 0 l) m := by
        rw [e1, hm]
        exact seg_fol ok g0 a r
      have cy : stA (stA 0 l) m = stA 0 l := by
        rw [e1, hm, seg_st, cyc]
      have ll : l.length = a := by rw [hl, seg_len]
      have ml : m.length = r := by rw [hm, seg_len]
      have ne : m ≠ [] := fun e => by
        rw [e] at ml
        have : 0 = r := ml
        omega
      have sl1 : ∀ b ∈ l, z ∉ b.2.1 := by
        rw [hl]
        exact seg_sil ok g0 0 a
      have sl2 : ∀ b ∈ m, z ∉ b.2.1 := by
        rw [hm]
        exact seg_sil ok g0 a r
      have lt1 : stA 0 l < C.length := by
        have := fol_lt ok ok.pos f1 l.length (Nat.le_refl _)
        rw [List.take_length] at this
        exact this
      have sh1 := fol_short ok ok.pos f1
      have sh2 := fol_short ok lt1 f2
      have lenW : ∀ {k : List Br}, (∀ b ∈ k, b.1.length ≤ 3) → ∀ w ∈ k.map (·.1), w.length ≤ 100 := fun h w hw => by
        obtain ⟨b, hb, rfl⟩ := List.mem_map.mp hw
        have := h b hb
        show b.1.length ≤ 100
        omega
      rw [← hl, ← hm] at hv
      clear hl hm
      obtain ⟨p, us, rfl, h1, hus⟩ := dp_tup hv
      obtain ⟨x0, r0', rfl, hx0, hus⟩ := dpA_cons hus
      obtain ⟨x1, r1', rfl, hx1, hus⟩ := dpA_cons hus
      obtain ⟨x2, r2', rfl, hx2, hus⟩ := dpA_cons hus
      cases dpA_nil hus
      obtain rfl := dp_str hx0
      refine ⟨_, rfl, _, .ty "tuple", .type "tuple", .type "tuple", true, rfl, .ty _, sqt_ty h1, kit_ty (by decide +kernel), true, rfl, iteNT ?_⟩
      refine ⟨_, rfl, _, _, rfl, .inr ⟨_, h1, rfl⟩, rfl, _, rfl, ite2 (fun h => absurd h (by show ¬ decide (V.int ((3 : Nat) : Int) = V.int 0) = true; decide)) (fun _ => ?_)⟩
      refine ⟨_, rfl, p, _, _, _, rfl, rfl, h1, atI_nat (j := 0) rfl, _, .ty "str", .type "str", .type "str", true, rfl, .ty _, .base (.str _), kit_ty (by decide +kernel), true, rfl, iteNT ?_⟩
      refine ⟨_, rfl, pr, _, _, _, rfl, rfl, SqT.of hpr2, vN_at (i := 0) (by rw [kl]; exact pos), _, _, rfl, rfl, _, rfl, ite2 (fun h => absurd (of_decide_eq_true h) (by omega)) (fun _ => ?_)⟩
      refine ⟨_, rfl, _, _, rfl, .inr ⟨_, h1, rfl⟩, rfl, _, rfl, ite2 (fun h => absurd h (by show ¬ (!decide (V.int ((3 : Nat) : Int) = V.int 3)) = true; decide)) (fun _ => ?_)⟩
      refine ⟨_, rfl, p, _, _, _, rfl, rfl, h1, atI_nat (j := 0) rfl, rfl, _, rfl, ite2 (fun h => absurd h (by show ¬ (!decide (V.str "ring" = V.str "ring")) = true; decide)) (fun _ => ?_)⟩
      refine ⟨_, rfl, p, _, _, _, rfl, rfl, h1, atI_nat (j := 1) rfl, x1, l.map (·.1), rfl, by rw [← dWd_I]; exact hx1, by rw [List.length_map]; omega, lenW sh1, fun H3 s3 => ⟨true, rfl, iteNT ?_⟩⟩
      refine ⟨_, rfl, p, _, _, _, rfl, rfl, same_t s3 h1, atI_nat (j := 2) rfl, x2, m.map (·.1), rfl, by rw [← dWd_I]; exact dp_same s3 _ _ hx2, by rw [List.length_map]; omega, lenW sh2, fun H4 s4 => ⟨true, rfl, iteNT ?_⟩⟩
      have s24 := s3.trans s4
      have h14 := same_t s24 h1
      refine ⟨_, rfl, _, rfl, _, rfl, p, _, _, _, rfl, rfl, h14, atI_nat (j := 1) rfl, _, rfl, p, _, _, _, rfl, rfl, h14, atI_nat (j := 2) rfl, vc, x1, x2, z, b, C, l, m, rfl, dp_same s24 _ _ hC2, ok, dp_same s24 _ _ hx1, dp_same s24 _ _ hx2, f1, f2, ne, cy, by omega, sl1, sl2, fun H5 s5 => ⟨true, rfl, iteNT ?_⟩⟩
      have s25 := s24.trans s5
      have h15 := same_t s25 h1
      refine ⟨_, rfl, _, rfl, _, rfl, p, _, _, _, rfl, rfl, h15, atI_nat (j := 1) rfl, _, rfl, p, _, _, _, rfl, rfl, h15, atI_nat (j := 2) rfl, by show 2 ≤ sizeLine; decide, fun pp hpp => ?_⟩
      have s6 := s25.trans (same_new (o := .tup [x1, x2]) hpp)
      have hpp6 := upd_same (H := H5) (a := pp) (o := .tup [x1, x2])
      generalize upd H5 pp (.tup [x1, x2]) = H6 at s6 hpp6
      refine ⟨vc, .ref pp, z, b, C, l, m, rfl, dp_same s6 _ _ hC2, ok, .tup (SqT.of hpp6) (.cons (dp_same s6 _ _ hx1) (.cons (dp_same s6 _ _ hx2) .nil)), f1, f2, ne, cy, by omega, by omega, sl1, sl2, fun H7 s7 => ⟨true, true, rfl, true, rfl, iteNT ?_⟩⟩
      have s27 := s6.trans s7
      refine ⟨_, rfl, _, rfl, _, rfl, vc, z, pr, b, C, rfl, dp_same s27 _ _ hC2, ok, SqT.of (s27 _ _ hpr2), fun H8 s8 => ⟨_, false, rfl, ?_⟩⟩
      rw [decide_eq_false (show ¬ 0 < ga (rk (nx C z)) 0 by omega)]
      exact q _ (g2.trans (Go.same d2 (s27.trans s8)))
end
end Mt
namespace Mt
open PySem PySem.Spec PyProof.Rows L2
theorem dWd_noL (l : List Br) : noL (dWd l) = true := noLs_map _ _ fun b _ => dI_noL b.1
theorem dN_noL (l : List Nat) : noL (dN l) = true := noLs_map _ _ fun _ _ => rfl
theorem lat_noL {C : Chn} {z : Str} {d : PyData} (h : Lat C z d) : noL d = true := by
  rcases h with ⟨_, rfl⟩ | ⟨_, a, r, _, _, _, _, rfl⟩
  · show (true && (noL (dN _) && true)) = true
    rw [dN_noL]
    rfl
  · show (true && (noL (dWd _) && (noL (dWd _) && true))) = true
    rw [dWd_noL, dWd_noL]
    rfl
theorem dep_W : ∀ l : List Br, PyData.depthAll (l.map fun b => dI b.1) ≤ 1
  | [] => by decide
  | x :: r => by
    show max (PyData.depthAll (x.1.map PyData.int) + 1) (PyData.depthAll (r.map fun b => dI b.1)) ≤ 1
    rw [dI_dep]
    have := dep_W r
    omega
theorem can_W : ∀ l : List Br, PyData.canLayAll0 (l.map fun b => dI b.1) = true
  | [] => rfl
  | x :: r => by
    show (PyData.canLay0 (dI x.1) && PyData.canLayAll0 (r.map fun b => dI b.1)) = true
    rw [dI_lay, can_W r]
    rfl
theorem Lat.sh {C : Chn} {z : Str} {d : PyData} (h : Lat C z d) : SeqAt.shaped d = true := by
  unfold SeqAt.shaped
  rw [Bool.and_eq_true]
  rcases h with ⟨_, rfl⟩ | ⟨_, a, r, _, _, _, _, rfl⟩
  · refine ⟨?_, decide_eq_true ?_⟩
    · show (PySem.PyData.strOk "sure" && (PyData.canLay0 (dN _) && true)) = true
      rw [dN_I, dI_lay]
      decide +kernel
    · show max 0 (max (PyData.depth (dN _)) 0) + 1 ≤ 64
      rw [dN_I]
      show max 0 (max (PyData.depthAll (List.map PyData.int _) + 1) 0) + 1 ≤ 64
      rw [dI_dep]
      decide
  · refine ⟨?_, decide_eq_true ?_⟩
    · show (PySem.PyData.strOk "ring" && (PyData.canLayAll0 (List.map (fun b : Br => dI b.1) _) && (PyData.canLayAll0 (List.map (fun b : Br => dI b.1) _) && true))) = true
      rw [can_W, can_W]
      decide +kernel
    · show max 0 (max (PyData.depthAll (List.map (fun b : Br => dI b.1) _) + 1) (max (PyData.depthAll (List.map (fun b : Br => dI b.1) _) + 1) 0)) + 1 ≤ 64
      have h1 := dep_W (seg C z 0 a)
      have h2 := dep_W (seg C z a r)
      omega
theorem sql_go {K : PySem.W.Frag} {S D a : Addr} {H H' : Hp} {xs : List V} (g : Go S D H H') (n : a ≠ D) (h : SqL K H a xs) : SqL K H' a xs := by
  rcases h with (h | ⟨o, h⟩) | h
  · exact .inl (.inl (g.2 _ _ h n))
  · exact .inl (.inr ⟨o, g.2 _ _ h n⟩)
  · exact .inr h
section
variable {P : Program} {w : World} {K : PySem.W.Frag} {mg : Str → Option Value} {base : Heap}
theorem ok_law (T : Txt K mg) (D_latest : Kept P w K mg base 2 "latest" ["chain", "mark"] (spLatest K)) (D__law_begin : Kept P w K mg base 1 "_law_begin" ["script"] (spBegin K)) (D__law_pick : Kept P w K mg base 2 "_law_pick" ["d", "row"] (spPick K)) (D__law_pop : Kept P w K mg base 2 "_law_pop" ["d", "row"] spPop) (D__law_pool : Kept P w K mg base 1 "_law_pool" [] spPool) (D__law_silent_chain : Kept P w K mg base 5 "_law_silent_chain" ["d", "marks", "most"] (spSChain K)) (D__law_asked : Kept P w K mg base 4 "_law_asked" ["d", "chain", "mark"] (spAsked K)) {f : Addr} {fd : FuncData} (F : FnP K "law" s_law f fd) : FnOk P w K mg base CX0 6 f fd ["script"] (spLaw K) := by
  refine F.ok sc_law (fun vs H Q E h => ?_) (fun cdv A outer s H vs Q E hr h => ?_)
  · obtain ⟨a, ns, rfl, _⟩ := h
    rfl
  · obtain ⟨a, ns, rfl, hS, hl, q⟩ := h
    refine ⟨_, PSs.nox (pss_cons (ps_set (i := 1) sc_law.nd rfl (Or.inr rfl) (pe_d D__law_begin (hr.mono (by decide)) (by rfl) (pa_cons (pv 0) pa_nil)))
      (pss_cons (ps_set (i := 2) sc_law.nd rfl (Or.inr rfl) (pe_d0 D__law_pool (hr.mono (by decide)) (by rfl)))
      (pss_cons (ps_setLc (i := 3) (own := [("k", 4)]) (g := (gName 4)) (tt := tYes) rfl sc_law.nd rfl rfl (sw_true rfl rfl rfl (by decide +kernel)) (pi_range1 (by rfl) T.b_range (pa_cons pe_int pa_nil)) (blkOk_by (N := N_law) (sc := defScope s_law) (by decide +kernel)) (fun _ _ _ _ _ => (pg_name (i := 4) sc_law.nd rfl (Or.inl rfl))) (fun _ _ _ _ _ => pts_nil) (fun _ _ _ _ _ => (pe_d D__law_pop (hr.mono (by decide)) (by rfl) (pa_cons (pv 1) (pa_cons (pv 2) pa_nil)))))
      (pss_cons (ps_set (i := 5) sc_law.nd rfl (Or.inl rfl) (pe_d D__law_silent_chain (hr.mono (by decide)) (by rfl) (pa_cons (pv 1) (pa_cons (pe_slice sl_list (pv 3) po_none (po_some pe_int)) (pa_cons (pe_d D__law_pick (hr.mono (by decide)) (by rfl) (pa_cons (pv 1) (pa_cons (pe_lst (pa_cons pe_int (pa_cons pe_int (pa_cons pe_int (pa_cons pe_int (pa_cons pe_int (pa_cons pe_int (pa_cons pe_int pa_nil)))))))) pa_nil))) pa_nil)))))
      (pss_cons (ps_set (i := 6) sc_law.nd rfl (Or.inl rfl) (pe_d D_latest (hr.mono (by decide)) (by rfl) (pa_cons (pv 5) (pa_cons (pe_ix ix_list (pv 3) pe_int (fun _ _ => rfl)) pa_nil))))
      (pss_cons (ps_for PassesOwn.never rfl (pi_list (pv 3)) (pg_name (i := 7) sc_law.nd rfl (Or.inl rfl)) (pss_one (ps_if (pt_not (pt_val (pe_d D__law_asked (hr.mono (by decide)) (by rfl) (pa_cons (pv 1) (pa_cons (pv 5) (pa_cons (pv 7) pa_nil)))))) (pss_one (ps_ret pe_bl)) pss_nil)))
      (pss_one (ps_ret (pe_cmpR (op_eqD (hr.units)) (pe_d D_latest (hr.mono (by decide)) (by rfl) (pa_cons (pv 5) (pa_cons (pe_ix ix_list (pv 3) pe_int (fun _ _ => rfl)) pa_nil))) (pv 6) (nomark _)))))))))), ?_⟩
    refine ⟨_, rfl, a, ns, rfl, hS, hl, fun S D H1 s1 D0 d => ?_⟩
    refine ⟨rfl, fun Nm hNm => ?_⟩
    have d2 := d.new (o := .lst (POOL.map V.str)) hNm
    have NmD := (d.free hNm).1
    have NmS := (d.free hNm).2
    have hN2 := upd_same (H := H1) (a := Nm) (o := .lst (POOL.map V.str))
    generalize upd H1 Nm (.lst (POOL.map V.str)) = H2 at d2 hN2
    refine ⟨_, rfl, by decide, by decide, fun Lm hLm => lc_range (lo := 0) (n := 3) (fun j H' => ∃ nms ms : List Str, DrawAt S D H' ∧ H' Nm = some (.lst (nms.map V.str)) ∧ H' Lm = some (.lst (ms.map V.str)) ∧ nms.length + j = 60 ∧ ms.length = j)
      ⟨POOL, [], d2.new hLm, same_new hLm _ _ hN2, upd_same, by rw [pool_len], rfl⟩ ?_ ?_⟩
    · rintro j H4 hj ⟨nms, ms, d4, hN4, hM4, hl4, hm4⟩
      have LmD := (d2.free hLm).1
      have LmS := (d2.free hLm).2
      have LmN : Lm ≠ Nm := (ne_of_none hN2 hLm).symm
      refine ⟨rfl, _, rfl, _, rfl, S, D, Nm, nms.map V.str, rfl, d4, NmD, hN4, by rw [List.length_map]; omega, by rw [List.length_map]; omega, fun H5 jx x g5 hx => ?_⟩
      rw [List.getElem?_map] at hx
      obtain ⟨z, hz, rfl⟩ := Option.map_eq_some_iff.mp hx
      have hjx := (List.getElem?_eq_some_iff.mp hz).1
      have ee : (nms.map V.str).eraseIdx jx = (nms.eraseIdx jx).map V.str := by
        first
          | exact List.eraseIdx_map ..
          | exact (List.map_eraseIdx ..).symm
          | simp [List.eraseIdx_eq_take_drop_succ]
      rw [ee]
      have hM5 := g5.2 _ _ hM4 LmD
      refine ⟨_, by rw [upd_ne LmN]; exact hM5, by rw [List.length_map]; exact line6 (by omega), nms.eraseIdx jx, ms ++ [z], (g5.1.upd NmD NmS).upd LmD LmS, by rw [upd_ne LmN.symm, upd_same], by rw [upd_same, List.map_append]; rfl, ?_, by rw [List.length_append, List.length_singleton, hm4]⟩
      rw [List.length_eraseIdx_of_lt hjx]
      omega
    · rintro H4 ⟨nms, ms, d4, hN4, hM4, hl4, hm4⟩
      have LmD := (d2.free hLm).1
      obtain ⟨m0, m1, m2, rfl⟩ : ∃ m0 m1 m2, ms = [m0, m1, m2] := by
        match ms, hm4 with
        | [x, y, z], _ => exact ⟨x, y, z, rfl⟩
      refine ⟨_, rfl, _, rfl, _, rfl, Lm, _, rfl, SqL.of hM4, fun p3 hp3 => ?_⟩
      have ec : cutV ([m0, m1, m2].map V.str) none (some 2) = [V.str m0, V.str m1] := by
        rw [show (some 2 : Option Int) = some ((2 : Nat) : Int) from rfl, cut_to (by show 2 ≤ 3; decide)]
        rfl
      rw [ec]
      have g5 := Go.new (o := .lst [V.str m0, V.str m1]) d4 hp3
      have hp35 := upd_same (H := H4) (a := p3) (o := .lst [V.str m0, V.str m1])
      have p3D := (d4.free hp3).1
      generalize upd H4 p3 (.lst [V.str m0, V.str m1]) = H5 at g5 hp35
      refine ⟨_, rfl, by show 7 ≤ sizeLine; decide, fun p4 hp4 => ?_⟩
      have p4D := (g5.1.free hp4).1
      have g6 := Go.new (o := .lst [.int 10, .int 10, .int 10, .int 40, .int 10, .int 10, .int 10]) g5.1 hp4
      have hp46 := upd_same (H := H5) (a := p4) (o := .lst [.int 10, .int 10, .int 10, .int 40, .int 10, .int 10, .int 10])
      have hp36 := g6.2 _ _ hp35 p3D
      generalize upd H5 p4 (.lst [.int 10, .int 10, .int 10, .int 40, .int 10, .int 10, .int 10]) = H6 at g6 hp46 hp36
      refine ⟨S, D, .ref p4, _, rfl, g6.1, fun H' g => .inr (.inl ⟨p4, rfl, SqL.of (g.2 _ _ hp46 p4D)⟩), by show 0 < 7; decide, by show 7 ≤ 100000; decide, fun H7 x hx g7 => ?_⟩
      have hx' : x = .int 10 ∨ x = .int 40 := by
        simp only [List.mem_cons, List.not_mem_nil, or_false] at hx
        rcases hx with h | h | h | h | h | h | h <;> simp [h]
      obtain ⟨n, rfl, n1, n50⟩ : ∃ n : Int, x = .int n ∧ 1 ≤ n ∧ n ≤ 50 := by
        rcases hx' with h | h
        · exact ⟨10, h, by decide, by decide⟩
        · exact ⟨40, h, by decide, by decide⟩
      refine ⟨S, D, p3, n, m0, m1, rfl, g7.1, p3D, g7.2 _ _ hp36 p3D, n1, n50, fun H8 vc b C g8 hC ok => ?_⟩
      have g48 := ((g5.trans g6).trans g7).trans g8
      have hM8 := g48.2 _ _ hM4 LmD
      refine ⟨_, rfl, _, rfl, Lm, _, _, _, rfl, rfl, SqL.of hM8, atI_nat (j := 0) rfl, vc, m0, b, C, rfl, hC, ok, fun H9 vb db s9 hLat hvb => ?_⟩
      have g9 := Go.same g8.1 s9
      have hM9 := s9 _ _ hM8
      have hC9 := dp_same s9 _ _ hC
      refine ⟨_, rfl, Lm, rfl, ⟨_, SqL.of hM9⟩, for_list (K := K) (a := Lm) (xs := [V.str m0, .str m1, .str m2]) (fun i σ H' => ∃ y7 : Option V, σ = [some (.ref a), some (.ref D), some (.ref Nm), some (.ref Lm), none, some vc, some vb, y7] ∧ DrawAt S D H' ∧ H' Lm = some (.lst [V.str m0, .str m1, .str m2]) ∧ Dp K H' vc (dChn b C) ∧ Dp K H' vb db) ⟨_, rfl, g9.1, hM9, hC9, hvb⟩ (fun i σ H' _ ⟨_, _, _, h, _⟩ => SqL.of h) ?_ ?_⟩
      · rintro i x σ H10 hi ⟨y7, rfl, d10, hM10, hC10, hvb10⟩
        obtain ⟨z, rfl⟩ : ∃ z, x = V.str z := by
          match i, hi with
          | 0, h => exact ⟨_, (Option.some.inj h).symm⟩
          | 1, h => exact ⟨_, (Option.some.inj h).symm⟩
          | 2, h => exact ⟨_, (Option.some.inj h).symm⟩
          | i + 3, h => cases h
        refine ⟨_, rfl, _, rfl, _, rfl, S, D, vc, z, b, C, rfl, d10, hC10, ok, fun H11 g11 => ⟨true, rfl, iteNT ?_⟩⟩
        have k := Go.keepT d10 g11
        exact ⟨_, rfl, g11.1, g11.2 _ _ hM10 LmD, dp_keep k _ _ (dChn_noL b C) hC10, dp_keep k _ _ (lat_noL hLat) hvb10⟩
      · rintro σ H10 ⟨y7, rfl, d10, hM10, hC10, hvb10⟩
        refine ⟨_, rfl, _, rfl, Lm, _, _, _, rfl, rfl, SqL.of hM10, atI_nat (j := 0) rfl, vc, m0, b, C, rfl, hC10, ok, fun H11 v2 db2 s11 hLat2 hv2 => ?_⟩
        obtain rfl := hLat.uniq hLat2
        refine ⟨_, rfl, db, db, hv2, dp_same s11 _ _ hvb10, hLat.sh, hLat.sh, ?_⟩
        rw [SeqAt.eqv_refl _ (SeqAt.canLay_of_shaped hLat.sh)]
        exact q _
end
end Mt
namespace Mt
open PySem PySem.Spec PyProof.Rows L2
def dd_longest : He.DefD := ⟨("longest", none), "longest", "longest", defArgs s_longest, defBody s_longest, defScope s_longest, [], []⟩
def dd_branches_along : He.DefD := ⟨("branches_along", none), "branches_along", "branches_along", defArgs s_branches_along, defBody s_branches_along, defScope s_branches_along, [], []⟩
def dd_ring_along : He.DefD := ⟨("ring_along", none), "ring_along", "ring_along", defArgs s_ring_along, defBody s_ring_along, defScope s_ring_along, [], []⟩
def dd_ring_of : He.DefD := ⟨("ring_of", none), "ring_of", "ring_of", defArgs s_ring_of, defBody s_ring_of, defScope s_ring_of, [], []⟩
def dd_latest : He.DefD := ⟨("latest", none), "latest", "latest", defArgs s_latest, defBody s_latest, defScope s_latest, [], []⟩
def dd_judge_ranks : He.DefD := ⟨("judge_ranks", none), "judge_ranks", "judge_ranks", defArgs s_judge_ranks, defBody s_judge_ranks, defScope s_judge_ranks, [], []⟩
def dd_is_sure : He.DefD := ⟨("is_sure", none), "is_sure", "is_sure", defArgs s_is_sure, defBody s_is_sure, defScope s_is_sure, [], []⟩
def dd_judge_ring : He.DefD := ⟨("judge_ring", none), "judge_ring", "judge_ring", defArgs s_judge_ring, defBody s_judge_ring, defScope s_judge_ring, [], []⟩
def dd_walk : He.DefD := ⟨("walk", none), "walk", "walk", defArgs s_walk, defBody s_walk, defScope s_walk, [], []⟩
def dd_branch_at : He.DefD := ⟨("branch_at", none), "branch_at", "branch_at", defArgs s_branch_at, defBody s_branch_at, defScope s_branch_at, [], []⟩
def dd__law_begin : He.DefD := ⟨("_law_begin", none), "_law_begin", "_law_begin", defArgs s__law_begin, defBody s__law_begin, defScope s__law_begin, [], []⟩
def dd__law_draw : He.DefD := ⟨("_law_draw", none), "_law_draw", "_law_draw", defArgs s__law_draw, defBody s__law_draw, defScope s__law_draw, [], []⟩
def dd__law_pick : He.DefD := ⟨("_law_pick", none), "_law_pick", "_law_pick", defArgs s__law_pick, defBody s__law_pick, defScope s__law_pick, [], []⟩
def dd__law_pop : He.DefD := ⟨("_law_pop", none), "_law_pop", "_law_pop", defArgs s__law_pop, defBody s__law_pop, defScope s__law_pop, [], []⟩
def dd__law_rare : He.DefD := ⟨("_law_rare", none), "_law_rare", "_law_rare", defArgs s__law_rare, defBody s__law_rare, defScope s__law_rare, [], []⟩
def dd__law_shuffled : He.DefD := ⟨("_law_shuffled", none), "_law_shuffled", "_law_shuffled", defArgs s__law_shuffled, defBody s__law_shuffled, defScope s__law_shuffled, [], []⟩
def dd__law_pool : He.DefD := ⟨("_law_pool", none), "_law_pool", "_law_pool", defArgs s__law_pool, defBody s__law_pool, defScope s__law_pool, [], []⟩
def dd__law_is_int : He.DefD := ⟨("_law_is_int", none), "_law_is_int", "_law_is_int", defArgs s__law_is_int, defBody s__law_is_int, defScope s__law_is_int, [], []⟩
def dd__law_is_ints : He.DefD := ⟨("_law_is_ints", none), "_law_is_ints", "_law_is_ints", defArgs s__law_is_ints, defBody s__law_is_ints, defScope s__law_is_ints, [], []⟩
def dd__law_words : He.DefD := ⟨("_law_words", none), "_law_words", "_law_words", defArgs s__law_words, defBody s__law_words, defScope s__law_words, [], []⟩
def dd__law_downhill : He.DefD := ⟨("_law_downhill", none), "_law_downhill", "_law_downhill", defArgs s__law_downhill, defBody s__law_downhill, defScope s__law_downhill, [], []⟩
def dd__law_turned : He.DefD := ⟨("_law_turned", none), "_law_turned", "_law_turned", defArgs s__law_turned, defBody s__law_turned, defScope s__law_turned, [], []⟩
def dd__law_wide_shown : He.DefD := ⟨("_law_wide_shown", none), "_law_wide_shown", "_law_wide_shown", defArgs s__law_wide_shown, defBody s__law_wide_shown, defScope s__law_wide_shown, [], []⟩
def dd__law_wide_chain : He.DefD := ⟨("_law_wide_chain", none), "_law_wide_chain", "_law_wide_chain", defArgs s__law_wide_chain, defBody s__law_wide_chain, defScope s__law_wide_chain, [], []⟩
def dd__law_silent_chain : He.DefD := ⟨("_law_silent_chain", none), "_law_silent_chain", "_law_silent_chain", defArgs s__law_silent_chain, defBody s__law_silent_chain, defScope s__law_silent_chain, [], []⟩
def dd__law_longest : He.DefD := ⟨("_law_longest", none), "_law_longest", "_law_longest", defArgs s__law_longest, defBody s__law_longest, defScope s__law_longest, [], []⟩
def dd__law_is_bool : He.DefD := ⟨("_law_is_bool", none), "_law_is_bool", "_law_is_bool", defArgs s__law_is_bool, defBody s__law_is_bool, defScope s__law_is_bool, [], []⟩
def dd__law_is_blocks : He.DefD := ⟨("_law_is_blocks", none), "_law_is_blocks", "_law_is_blocks", defArgs s__law_is_blocks, defBody s__law_is_blocks, defScope s__law_is_blocks, [], []⟩
def dd__law_end : He.DefD := ⟨("_law_end", none), "_law_end", "_law_end", defArgs s__law_end, defBody s__law_end, defScope s__law_end, [], []⟩
def dd__law_is_silent : He.DefD := ⟨("_law_is_silent", none), "_law_is_silent", "_law_is_silent", defArgs s__law_is_silent, defBody s__law_is_silent, defScope s__law_is_silent, [], []⟩
def dd__law_comes : He.DefD := ⟨("_law_comes", none), "_law_comes", "_law_comes", defArgs s__law_comes, defBody s__law_comes, defScope s__law_comes, [], []⟩
def dd__law_asked : He.DefD := ⟨("_law_asked", none), "_law_asked", "_law_asked", defArgs s__law_asked, defBody s__law_asked, defScope s__law_asked, [], []⟩
def dd_law : He.DefD := ⟨("law", none), "law", "law", defArgs s_law, defBody s_law, defScope s_law, [], []⟩
def dds : List He.DefD := [dd_longest, dd_branches_along, dd_ring_along, dd_ring_of, dd_latest, dd_judge_ranks, dd_is_sure, dd_judge_ring, dd_walk, dd_branch_at, dd__law_begin, dd__law_draw, dd__law_pick, dd__law_pop, dd__law_rare, dd__law_shuffled, dd__law_pool, dd__law_is_int, dd__law_is_ints, dd__law_words, dd__law_downhill, dd__law_turned, dd__law_wide_shown, dd__law_wide_chain, dd__law_silent_chain, dd__law_longest, dd__law_is_bool, dd__law_is_blocks, dd__law_end, dd__law_is_silent, dd__law_comes, dd__law_asked, dd_law]
def fas : List He.Fa := [.glo "longest", .glo "branches_along", .glo "ring_along", .glo "ring_of", .glo "latest", .glo "judge_ranks", .glo "is_sure", .glo "judge_ring", .glo "walk", .glo "branch_at", .glo "_law_begin", .glo "_law_draw", .glo "_law_pick", .glo "_law_pop", .glo "_law_rare", .glo "_law_shuffled", .glo "_law_pool", .glo "_law_is_int", .glo "_law_is_ints", .glo "_law_words", .glo "_law_downhill", .glo "_law_turned", .glo "_law_wide_shown", .glo "_law_wide_chain", .glo "_law_silent_chain", .glo "_law_longest", .glo "_law_is_bool", .glo "_law_is_blocks", .glo "_law_end", .glo "_law_is_silent", .glo "_law_comes", .glo "_law_asked", .glo "law", .free "int", .free "abs", .free "len", .free "isinstance", .free "bool", .free "tuple", .free "list", .free "range", .free "all", .free "any", .free "sorted", .free "enumerate", .free "zip", .free "str"]
def exM (K : PySem.W.Frag) : Bool := true
abbrev R : PySem.W.OpenRow := PySem.W.OpenLaw.row PySem.Challenge.rw_meantrace_k77_whole_latest
abbrev hk : PySem.W.Hook := hookM 4 fas dds exM
def ob (s : PySem.W.SharedT) : AlM := obsM 4 fas dds exM (HandSHeadRun.getT s)
theorem ob_eq (s : PySem.W.SharedT) : ob s = hk.obs s.abs := obsM_eq (HandSHeadRun.getT_eq s)
def names : List PySem.Str := (["longest", "branches_along", "ring_along", "ring_of", "latest", "judge_ranks", "is_sure", "judge_ring", "MeanError", "Dry", "walk", "branch_at", "_law_begin", "_law_draw", "_law_pick", "_law_pop", "_law_rare", "_law_shuffled", "_law_pool", "_law_is_int", "_law_is_ints", "_law_words", "_law_downhill", "_law_turned", "_law_wide_shown"] : List PySem.Str) ++ (["_law_wide_chain", "_law_silent_chain", "_law_longest", "_law_is_bool", "_law_is_blocks", "_law_end", "_law_is_silent", "_law_comes", "_law_asked"] : List PySem.Str)
theorem run (w : World) : HandSHeadRun.RunEq R (PySem.W.view R.prog [40]) hk ob 3000 names w := by
  intro os; kernel_rfl
theorem facts {P : Program} {w : World} {K : PySem.W.Frag} {h : Heap} {mg : Str → Option Value} {f : Addr} (X : K.In h) (G : h.Ns mainGlobals mg) (hfa : mg ("law" : Str) = some (.ref f)) (c : SaysM fas dds exM K) :
    ∃ fd : FuncData, (∀ (s : Shared) (v : Value), BindsTo s fd ⟨[v], []⟩ [("script", v)]) ∧ ∀ base : Heap, K.In base → base.Ns mainGlobals mg → FnOk P w K mg base CX0 6 f fd ["script"] (spLaw K) := by
  obtain ⟨fd, F⟩ := c.1.def_ 32 (d := dd_law) rfl
  have e := hfa.symm.trans (He.glo_ok X G (c.1.fact 32 (f := .glo "law") rfl))
  cases e
  have T : Txt K mg := ⟨He.free_ok X G (c.1.fact 33 (f := .free "int") rfl), He.free_ok X G (c.1.fact 34 (f := .free "abs") rfl), He.free_ok X G (c.1.fact 35 (f := .free "len") rfl), He.free_ok X G (c.1.fact 36 (f := .free "isinstance") rfl), He.free_ok X G (c.1.fact 37 (f := .free "bool") rfl), He.free_ok X G (c.1.fact 38 (f := .free "tuple") rfl), He.free_ok X G (c.1.fact 39 (f := .free "list") rfl), He.free_ok X G (c.1.fact 40 (f := .free "range") rfl), He.free_ok X G (c.1.fact 41 (f := .free "all") rfl), He.free_ok X G (c.1.fact 42 (f := .free "any") rfl), He.free_ok X G (c.1.fact 43 (f := .free "sorted") rfl), He.free_ok X G (c.1.fact 44 (f := .free "enumerate") rfl), He.free_ok X G (c.1.fact 45 (f := .free "zip") rfl), He.free_ok X G (c.1.fact 46 (f := .free "str") rfl)⟩
  have b := FunD.bindsA (ps := ["script"]) F fun _ _ _ _ _ _ us hl => match us, hl with | [_], _ => rfl
  refine ⟨fd, fun s v => b s [v] rfl, fun base _ _ => ?_⟩
  have D_longest : Kept P w K mg base 1 "longest" ["nexts"] (spLong K) := kept_of (st := s_longest) X G (c.1.def_ 0 (d := dd_longest) rfl) (c.1.fact 0 (f := .glo "longest") rfl) (fun _ _ _ _ _ _ us hl => match us, hl with | [_], _ => rfl) (fun f fd F => ok_longest T F)
  have D_branches_along : Kept P w K mg base 1 "branches_along" ["rows", "state", "blocks"] (spAlong K) := kept_of (st := s_branches_along) X G (c.1.def_ 1 (d := dd_branches_along) rfl) (c.1.fact 1 (f := .glo "branches_along") rfl) (fun _ _ _ _ _ _ us hl => match us, hl with | [_, _, _], _ => rfl) (fun f fd F => ok_branches_along T F)
  have D_ring_of : Kept P w K mg base 1 "ring_of" ["picked", "state"] (spRing K) := kept_of (st := s_ring_of) X G (c.1.def_ 3 (d := dd_ring_of) rfl) (c.1.fact 3 (f := .glo "ring_of") rfl) (fun _ _ _ _ _ _ us hl => match us, hl with | [_, _], _ => rfl) (fun f fd F => ok_ring_of T F)
  have D_is_sure : Kept P w K mg base 1 "is_sure" ["row", "mark", "ranks", "rank"] (spSure K) := kept_of (st := s_is_sure) X G (c.1.def_ 6 (d := dd_is_sure) rfl) (c.1.fact 6 (f := .glo "is_sure") rfl) (fun _ _ _ _ _ _ us hl => match us, hl with | [_, _, _, _], _ => rfl) (fun f fd F => ok_is_sure T F)
  have D_branch_at : Kept P w K mg base 1 "branch_at" ["row", "tape", "at"] (spBranch K) := kept_of (st := s_branch_at) X G (c.1.def_ 9 (d := dd_branch_at) rfl) (c.1.fact 9 (f := .glo "branch_at") rfl) (fun _ _ _ _ _ _ us hl => match us, hl with | [_, _, _], _ => rfl) (fun f fd F => ok_branch_at T F)
  have D__law_begin : Kept P w K mg base 1 "_law_begin" ["script"] (spBegin K) := kept_of (st := s__law_begin) X G (c.1.def_ 10 (d := dd__law_begin) rfl) (c.1.fact 10 (f := .glo "_law_begin") rfl) (fun _ _ _ _ _ _ us hl => match us, hl with | [_], _ => rfl) (fun f fd F => ok__law_begin T F)
  have D__law_draw : Kept P w K mg base 1 "_law_draw" ["d", "many"] spDraw := kept_of (st := s__law_draw) X G (c.1.def_ 11 (d := dd__law_draw) rfl) (c.1.fact 11 (f := .glo "_law_draw") rfl) (fun _ _ _ _ _ _ us hl => match us, hl with | [_, _], _ => rfl) (fun f fd F => ok__law_draw T F)
  have D__law_pool : Kept P w K mg base 1 "_law_pool" [] spPool := kept_of (st := s__law_pool) X G (c.1.def_ 16 (d := dd__law_pool) rfl) (c.1.fact 16 (f := .glo "_law_pool") rfl) (fun _ _ _ _ _ _ us hl => match us, hl with | [], _ => rfl) (fun f fd F => ok__law_pool T F)
  have D__law_is_int : Kept P w K mg base 1 "_law_is_int" ["thing"] spIsInt := kept_of (st := s__law_is_int) X G (c.1.def_ 17 (d := dd__law_is_int) rfl) (c.1.fact 17 (f := .glo "_law_is_int") rfl) (fun _ _ _ _ _ _ us hl => match us, hl with | [_], _ => rfl) (fun f fd F => ok__law_is_int T F)
  have D__law_longest : Kept P w K mg base 1 "_law_longest" ["chain", "mark"] (spLLong K) := kept_of (st := s__law_longest) X G (c.1.def_ 25 (d := dd__law_longest) rfl) (c.1.fact 25 (f := .glo "_law_longest") rfl) (fun _ _ _ _ _ _ us hl => match us, hl with | [_, _], _ => rfl) (fun f fd F => ok__law_longest T F)
  have D__law_is_bool : Kept P w K mg base 1 "_law_is_bool" ["told", "due"] spIsBool := kept_of (st := s__law_is_bool) X G (c.1.def_ 26 (d := dd__law_is_bool) rfl) (c.1.fact 26 (f := .glo "_law_is_bool") rfl) (fun _ _ _ _ _ _ us hl => match us, hl with | [_, _], _ => rfl) (fun f fd F => ok__law_is_bool T F)
  have D__law_end : Kept P w K mg base 1 "_law_end" ["chain", "start", "blocks", "mark"] (spEnd K) := kept_of (st := s__law_end) X G (c.1.def_ 28 (d := dd__law_end) rfl) (c.1.fact 28 (f := .glo "_law_end") rfl) (fun _ _ _ _ _ _ us hl => match us, hl with | [_, _, _, _], _ => rfl) (fun f fd F => ok__law_end T F)
  have D_ring_along : Kept P w K mg base 2 "ring_along" ["rows", "way", "ring"] (spRAlong K) := kept_of (st := s_ring_along) X G (c.1.def_ 2 (d := dd_ring_along) rfl) (c.1.fact 2 (f := .glo "ring_along") rfl) (fun _ _ _ _ _ _ us hl => match us, hl with | [_, _, _], _ => rfl) (fun f fd F => ok_ring_along T D_branches_along F)
  have D_latest : Kept P w K mg base 2 "latest" ["chain", "mark"] (spLatest K) := kept_of (st := s_latest) X G (c.1.def_ 4 (d := dd_latest) rfl) (c.1.fact 4 (f := .glo "latest") rfl) (fun _ _ _ _ _ _ us hl => match us, hl with | [_, _], _ => rfl) (fun f fd F => ok_latest T D_longest D_ring_of F)
  have D_judge_ranks : Kept P w K mg base 2 "judge_ranks" ["chain", "mark", "ranks"] (spJRanks K) := kept_of (st := s_judge_ranks) X G (c.1.def_ 5 (d := dd_judge_ranks) rfl) (c.1.fact 5 (f := .glo "judge_ranks") rfl) (fun _ _ _ _ _ _ us hl => match us, hl with | [_, _, _], _ => rfl) (fun f fd F => ok_judge_ranks T D_is_sure F)
  have D_walk : Kept P w K mg base 2 "walk" ["chain", "tape", "ticks"] (spWalk K) := kept_of (st := s_walk) X G (c.1.def_ 8 (d := dd_walk) rfl) (c.1.fact 8 (f := .glo "walk") rfl) (fun _ _ _ _ _ _ us hl => match us, hl with | [_, _, _], _ => rfl) (fun f fd F => ok_walk T D_branch_at F)
  have D__law_pick : Kept P w K mg base 2 "_law_pick" ["d", "row"] (spPick K) := kept_of (st := s__law_pick) X G (c.1.def_ 12 (d := dd__law_pick) rfl) (c.1.fact 12 (f := .glo "_law_pick") rfl) (fun _ _ _ _ _ _ us hl => match us, hl with | [_, _], _ => rfl) (fun f fd F => ok__law_pick T D__law_draw F)
  have D__law_pop : Kept P w K mg base 2 "_law_pop" ["d", "row"] spPop := kept_of (st := s__law_pop) X G (c.1.def_ 13 (d := dd__law_pop) rfl) (c.1.fact 13 (f := .glo "_law_pop") rfl) (fun _ _ _ _ _ _ us hl => match us, hl with | [_, _], _ => rfl) (fun f fd F => ok__law_pop T D__law_draw F)
  have D__law_rare : Kept P w K mg base 2 "_law_rare" ["d", "many"] spRare := kept_of (st := s__law_rare) X G (c.1.def_ 14 (d := dd__law_rare) rfl) (c.1.fact 14 (f := .glo "_law_rare") rfl) (fun _ _ _ _ _ _ us hl => match us, hl with | [_, _], _ => rfl) (fun f fd F => ok__law_rare T D__law_draw F)
  have D__law_shuffled : Kept P w K mg base 2 "_law_shuffled" ["d", "row"] (spShufP K) := kept_of (st := s__law_shuffled) X G (c.1.def_ 15 (d := dd__law_shuffled) rfl) (c.1.fact 15 (f := .glo "_law_shuffled") rfl) (fun _ _ _ _ _ _ us hl => match us, hl with | [_, _], _ => rfl) (fun f fd F => ok__law_shuffled T D__law_draw F)
  have D__law_is_ints : Kept P w K mg base 2 "_law_is_ints" ["row"] (spIsInts K) := kept_of (st := s__law_is_ints) X G (c.1.def_ 18 (d := dd__law_is_ints) rfl) (c.1.fact 18 (f := .glo "_law_is_ints") rfl) (fun _ _ _ _ _ _ us hl => match us, hl with | [_], _ => rfl) (fun f fd F => ok__law_is_ints T D__law_is_int F)
  have D__law_words : Kept P w K mg base 2 "_law_words" ["d", "base", "many"] (spWords K) := kept_of (st := s__law_words) X G (c.1.def_ 19 (d := dd__law_words) rfl) (c.1.fact 19 (f := .glo "_law_words") rfl) (fun _ _ _ _ _ _ us hl => match us, hl with | [_, _, _], _ => rfl) (fun f fd F => ok__law_words T D__law_draw F)
  have D_judge_ring : Kept P w K mg base 3 "judge_ring" ["chain", "mark", "paper"] (spJRing K) := kept_of (st := s_judge_ring) X G (c.1.def_ 7 (d := dd_judge_ring) rfl) (c.1.fact 7 (f := .glo "judge_ring") rfl) (fun _ _ _ _ _ _ us hl => match us, hl with | [_, _, _], _ => rfl) (fun f fd F => ok_judge_ring T D_ring_along F)
  have D__law_downhill : Kept P w K mg base 3 "_law_downhill" ["d", "base", "states", "mark", "other"] (spDown K) := kept_of (st := s__law_downhill) X G (c.1.def_ 20 (d := dd__law_downhill) rfl) (c.1.fact 20 (f := .glo "_law_downhill") rfl) (fun _ _ _ _ _ _ us hl => match us, hl with | [_, _, _, _, _], _ => rfl) (fun f fd F => ok__law_downhill T D__law_draw D__law_pick D__law_words F)
  have D__law_turned : Kept P w K mg base 3 "_law_turned" ["d", "rows"] (spTurn K) := kept_of (st := s__law_turned) X G (c.1.def_ 21 (d := dd__law_turned) rfl) (c.1.fact 21 (f := .glo "_law_turned") rfl) (fun _ _ _ _ _ _ us hl => match us, hl with | [_, _], _ => rfl) (fun f fd F => ok__law_turned T D__law_shuffled F)
  have D__law_wide_shown : Kept P w K mg base 3 "_law_wide_shown" ["d", "marks"] (spShown K) := kept_of (st := s__law_wide_shown) X G (c.1.def_ 22 (d := dd__law_wide_shown) rfl) (c.1.fact 22 (f := .glo "_law_wide_shown") rfl) (fun _ _ _ _ _ _ us hl => match us, hl with | [_, _], _ => rfl) (fun f fd F => ok__law_wide_shown T D__law_pick F)
  have D__law_is_blocks : Kept P w K mg base 3 "_law_is_blocks" ["row"] (spBlocks K) := kept_of (st := s__law_is_blocks) X G (c.1.def_ 27 (d := dd__law_is_blocks) rfl) (c.1.fact 27 (f := .glo "_law_is_blocks") rfl) (fun _ _ _ _ _ _ us hl => match us, hl with | [_], _ => rfl) (fun f fd F => ok__law_is_blocks T D__law_is_ints F)
  have D__law_is_silent : Kept P w K mg base 3 "_law_is_silent" ["chain", "mark", "way", "ring"] (spSil K) := kept_of (st := s__law_is_silent) X G (c.1.def_ 29 (d := dd__law_is_silent) rfl) (c.1.fact 29 (f := .glo "_law_is_silent") rfl) (fun _ _ _ _ _ _ us hl => match us, hl with | [_, _, _, _], _ => rfl) (fun f fd F => ok__law_is_silent T D_walk D__law_end F)
  have D__law_comes : Kept P w K mg base 3 "_law_comes" ["d", "chain", "mark", "rank"] (spComes K) := kept_of (st := s__law_comes) X G (c.1.def_ 30 (d := dd__law_comes) rfl) (c.1.fact 30 (f := .glo "_law_comes") rfl) (fun _ _ _ _ _ _ us hl => match us, hl with | [_, _, _, _], _ => rfl) (fun f fd F => ok__law_comes T D_walk D__law_draw F)
  have D__law_wide_chain : Kept P w K mg base 4 "_law_wide_chain" ["d", "base", "states", "marks"] (spWChain K) := kept_of (st := s__law_wide_chain) X G (c.1.def_ 23 (d := dd__law_wide_chain) rfl) (c.1.fact 23 (f := .glo "_law_wide_chain") rfl) (fun _ _ _ _ _ _ us hl => match us, hl with | [_, _, _, _], _ => rfl) (fun f fd F => ok__law_wide_chain T D__law_draw D__law_words D__law_wide_shown F)
  have D__law_asked : Kept P w K mg base 4 "_law_asked" ["d", "chain", "mark"] (spAsked K) := kept_of (st := s__law_asked) X G (c.1.def_ 31 (d := dd__law_asked) rfl) (c.1.fact 31 (f := .glo "_law_asked") rfl) (fun _ _ _ _ _ _ us hl => match us, hl with | [_, _, _], _ => rfl) (fun f fd F => ok__law_asked T D_latest D_judge_ranks D_judge_ring D__law_is_ints D__law_longest D__law_is_bool D__law_is_blocks D__law_is_silent D__law_comes F)
  have D__law_silent_chain : Kept P w K mg base 5 "_law_silent_chain" ["d", "marks", "most"] (spSChain K) := kept_of (st := s__law_silent_chain) X G (c.1.def_ 24 (d := dd__law_silent_chain) rfl) (c.1.fact 24 (f := .glo "_law_silent_chain") rfl) (fun _ _ _ _ _ _ us hl => match us, hl with | [_, _, _], _ => rfl) (fun f fd F => ok__law_silent_chain T D__law_draw D__law_pick D__law_rare D__law_downhill D__law_turned D__law_wide_chain F)
  exact ok_law T D_latest D__law_begin D__law_pick D__law_pop D__law_pool D__law_silent_chain D__law_asked F
end Mt
open PySem PySem.W PySem.Calls PyProof.Rows
set_option maxHeartbeats 0 in
theorem PySem.Challenge.cw_meantrace_k77_whole_latest_holds : PySem.Challenge.rw_meantrace_k77_whole_latest.Holds := by
  w_on; o_law
  refine HandSHeadRun.head_any (r := OpenLaw.row PySem.Challenge.rw_meantrace_k77_whole_latest) (q := view (OpenLaw.row PySem.Challenge.rw_meantrace_k77_whole_latest).prog [40]) (H := Mt.hk) (ob := Mt.ob) (M := 3000) (loose := Mt.names) (d := HandSHeadRun.topDef (OpenLaw.row PySem.Challenge.rw_meantrace_k77_whole_latest).prog 40) (kwd := []) Mt.ob_eq
    (by kernel_rfl) (fun s => by kernel_rfl) Mt.run (by kernel_rfl) (by kernel_rfl) (by kernel_rfl) (by rfl) (by first | assumption | decide +kernel) (by decide +kernel) ⟨rfl, rfl, rfl, rfl, rfl, by decide +kernel⟩ ?hw ?hc
  case hw => w_witness2
  case hc =>
    refine L2.walk_ofE (l := PySem.Challenge.rw_meantrace_k77_whole_latest) (n := 63) (k := 6) (x := "script") (CX := L2.CX0) rfl (by decide) (by kernel_rfl) ⟨rfl, by decide, by decide⟩ ?F (fun _ _ _ _ z => z)
    intro w mg fa h Y G hmg0
    obtain ⟨K, KX, c⟩ := Y
    have hmg : mg ("law" : PySem.Str) = some (.ref fa) := by
      have e : (HandSHeadRun.topDef (OpenLaw.row PySem.Challenge.rw_meantrace_k77_whole_latest).prog 40).name = ("law" : PySem.Str) := by kernel_rfl
      rw [← e]
      exact hmg0
    obtain ⟨fd, hb, hF⟩ := Mt.facts (P := (PySem.Challenge.rw_meantrace_k77_whole_latest).prog) (w := w) KX G hmg c
    exact ⟨K, fd, Mt.spLaw K, KX, hb, fun H a ns hl hO hS => ⟨a, ns, rfl, hS, hl, fun _ => rfl⟩, hF⟩
