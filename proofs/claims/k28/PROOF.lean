import PyProof.Rows.All
import Wide.All
import OpenK.AllK
import Wide.FinOn
import HandS.ForMost
import HandS.Sort
import HandS.IsInst
import HandS.Deep
import HandS.TupAny
import HandS.TryOnly
import HandS.Style
import HandS.Flow
import HandS.Codes
import HandS.Evl
import HandS.SortInts
import HandS.Wide
import HandS.Gcd
import KE.KSortedM
import KE.DataMinMax
import KE.SortData
import HandS.DictComp
import HandS.More
import HandS.Walk
import HandS.DictTup
import PyProof.DictMoreH
import HandS.Conv
import PyProof.StrOps2
import PyProof.Rows.StrStep
import HandS.AnyAll
import HandS.MakeKwOnly
import KE.KNestM
import HandS.EndBits
import KE.GoesEnum
import HandS.Zip
import PyProof.CollectIter
import HandS.Star
import PySem.Challenge.RW_listenfield_k28_whole_room_for_all
section
set_option Elab.async false
set_option linter.all false
set_option maxRecDepth 100000
set_option maxHeartbeats 4000000
/-! Lf: rules and words of our own over the hand layer (listenfield laws). -/
namespace Lf
open PySem PySem.Spec PyProof.Rows L2
theorem q_rng_item (r : Addr) (a b i : Int) (t u v k : Tok) (j : Int) (hj : j = if i < 0 then i + Builtin.Range.rangeSize a b 1 else i) (h0 : 0 ≤ j) (h1 : j < Builtin.Range.rangeSize a b 1) :
    Meets (Builtin.«range.__getitem__» ⟨[.ref r, .int i k], []⟩) (fun _ R s => s.heap.get? r = some { cls := .type "range", dict := none, data := .fields #[.int a t, .int b u, .int 1 v], slots := #[] } ∧ R (.ok (.ret (.int (a + j * 1) s.toks))) { s with toks := s.toks + 1 }) :=
  .of_wp fun prog w A R s h => by
    obtain ⟨hp, g, d, tk, os⟩ := s; obtain ⟨hl, h⟩ := h
    have e : (decide (j < 0) || decide (j ≥ Builtin.Range.rangeSize a b 1)) = false := by
      rw [decide_eq_false (by omega), decide_eq_false (by omega)]; rfl
    have f1 := PySem.AutoSeq1.idx_int
    wp_walk
    rw [← hj, e]
    wp_walk
    exact ⟨_, rfl, h⟩
theorem get_rng {prog : Program} {w : World} {A : Around} {E : Value → Shared → Prop} {s : Shared} {r : Addr} {a b i : Int} {t u v k : Tok} {Q : Value → Shared → Prop} (ho : s.heap.get? r = some { cls := .type "range", dict := none, data := .fields #[.int a t, .int b u, .int 1 v], slots := #[] }) (j : Int) (hj : j = if i < 0 then i + Builtin.Range.rangeSize a b 1 else i) (h0 : 0 ≤ j) (h1 : j < Builtin.Range.rangeSize a b 1)
    (h : Q (.int (a + j * 1) s.toks) { s with toks := s.toks + 1 }) : wpAny (model prog w) A (getItem (.ref r) (.int i k)) Q E s := by
  have hT : s.TypeIs (.ref r) "range" := ⟨_, ho, rfl⟩
  exact wpAny_getItem_slot hT (by decide +kernel) F.slot_range_getitem (call_meets F.slot_range_getitem hT F.entry_range_getitem (F.args_range_getitem_2 _ _) (q_rng_item r a b i t u v k j hj h0 h1) ⟨ho, h⟩)
section
variable {X : Cx}
/-- r[i] of a range object, i from 0 or from the end -/
def rIxR : R2 := fun x y H Q => ∃ p lo hi i j, x = .ref p ∧ y = .int i ∧ H p = some (.rng lo hi) ∧ (j = if i < 0 then i + (hi - lo) else i) ∧ (0 ≤ j ∧ lo + j < hi) ∧ Q (.int (lo + j)) H
theorem ix_rng : IxR X rIxR := by
  intro value slice pins s σ H x y v u Q I rx ry h hs
  obtain ⟨p, lo, hi, i, j, rfl, rfl, hq, hj, ⟨h0, h1⟩, q⟩ := h
  cases rx
  obtain ⟨k, rfl⟩ := ry
  obtain ⟨t1, t2, t3, ho⟩ := I.hok p _ hq
  have hT : s.TypeIs (.ref p) "range" := ⟨_, ho, rfl⟩
  have hz : Builtin.Range.rangeSize lo hi 1 = hi - lo := by rw [rangeSize_one, if_pos (by omega)]
  refine tail_any hT F.slot_range_getitem.lookup (get_rng ho j (by rw [hz]; exact hj) h0 (by omega) ⟨.int (lo + j), H, I.tok _, ?_, q⟩) hs
  rw [Int.mul_one]
  exact ⟨_, rfl⟩
/-- xs[i], by values -/
theorem get_list : PGet X (rIxL X.K) := by
  intro pins s σ H x y v u Q I rx ry h
  obtain ⟨p, xs, i, z, rfl, rfl, hq, he, q⟩ := h
  cases rx
  obtain ⟨t, rfl⟩ := ry
  obtain ⟨its, r, pl, hz⟩ := I.list hq
  obtain ⟨j, h1, h2, h3, h4, h5⟩ := atI_get he
  obtain ⟨w, ew, rw'⟩ := r.get h2
  have hl := r.length
  have hn := line63
  have fin : EP X pins σ Q w s := ⟨z, H, I, rw', q⟩
  by_cases h0 : 0 ≤ i
  · have hj : i.toNat = j := by
      rw [seqIndex_of h0 h5] at h1
      exact Option.some.inj h1
    exact wpAny_getItem_list pl.isList h0 (by omega) (by rw [hj]; simpa using ew) fin
  · have hj : (i + (its.toArray.size : Int)).toNat = j := by
      rw [seqIndex_neg (by omega) h4] at h1
      rw [List.size_toArray, ← hl]
      exact Option.some.inj h1
    exact wpAny_getItem_list_neg pl.isList (by omega) (by rw [List.size_toArray] <;> omega) (by omega) (by rw [hj]; simpa using ew) fin
/-- range(n) as a value -/
theorem cr_range1 : CallR X (.type "range") (fun vs H Q => ∃ j, vs = [V.int j] ∧ ∀ p, H p = none → Q (.ref p) (upd H p (.rng 0 j))) := by
  intro pins s σ H vs us Q I r h
  obtain ⟨j, rfl, q⟩ := h
  obtain ⟨u1, rfl, t, rfl⟩ := vals1 r
  refine call_range_1 ⟨.ref s.heap.objs.size, upd H s.heap.objs.size (.rng 0 j), I.laid (t' := s.toks + 1 + 1) (fun b o e => Heap.get?_push_of_some _ e) (Nat.le_refl _) ?_, rfl, q _ (I.hok.fresh (Nat.le_refl _))⟩
  exact ⟨s.toks, t, s.toks + 1, Heap.get?_push_size _ rfl⟩
end

/-! ### defs under known guards: repr of a list asks that nobody is being shown around it -/
structure Fn (P : Program) (w : World) (K : PySem.W.Frag) (mg : Str → Option Value) (base : Heap) (CX : CXT) (k : Nat) (f : Addr) (fd : FuncData) (ps : List Str) (sp : Sp) : Prop where
  many : ∀ vs H Q E, sp vs H Q E → vs.length = ps.length
  go : ∀ (A : Around) (outer : List Env) (s : Shared) (H : Hp) (args : Args) (us : List Value) (vs : List V) (Q : VK) (E : XK), A.guards = some [] → Room k A →
    Env0 P w K mg base A outer s H → BindsTo s fd args (ps.zip us) → Vals vs us → sp vs H Q E → codeAny (model P w) A (.call (.ref f) args) (CR CX outer P w H s Q E) s
section
variable {X : Cx} {CX : CXT} {k j : Nat} {f C : Addr} {fd : FuncData} {ps : List Str} {sp : Sp} {E : XK}
theorem Fn.ran {pins : List (Addr × Obj)} {σ : L2.St} {H : Hp} {s : Shared} {Q : VK} {us : List Value} {vs : List V} (F : Fn X.prog X.w X.K X.mg X.base CX k f fd ps sp) (g : X.A.guards = some []) (hr : Room k X.A)
    (hb : Binds X.K fd ps []) (hx : Passes CX X E) (I : Inv X pins σ H s) (r : Vals vs us) (h : sp vs H Q E) : wpAny (model X.prog X.w) X.A (call (.ref f) us) (EP X pins σ Q) X.xe s := by
  have n1 : us.length = ps.length := by
    rw [← F.many _ _ _ _ h]
    exact r.length.symm
  have b1 := hb s us I.kIn (by rw [List.append_nil]; exact n1)
  rw [List.append_nil] at b1
  refine wpAny_call (codeAny_mono (F.go _ _ _ _ _ us vs Q E g hr I.env0 b1 r h) ?_)
  intro res s' hq
  rcases res with e | fl
  · exact hx _ _ _ _ _ _ I hq
  · cases fl
    case ret u => exact I.after hq
    all_goals exact hq.elim
theorem Fn.made {pins : List (Addr × Obj)} {σ : L2.St} {H : Hp} {s : Shared} {Q : VK} {us : List Value} {vs : List V} (M : Mk X.K C f) (F : Fn X.prog X.w X.K X.mg X.base CX k f fd ps sp) (g : X.A.guards = some []) (hr : Room (k + 1) X.A)
    (hb : Binds X.K fd ps []) (hx : Passes CX X E) (I : Inv X pins σ H s) (r : Vals vs us)
    (h : ∀ x dx, H x = none → H dx = none → dx ≠ x → sp (.ref x :: vs) (upd (upd H dx (.own x)) x (.ins C dx [])) (fun v H2 => v = .non ∧ Q (.ref x) H2) E) :
    wpAny (model X.prog X.w) X.A (call (.ref C) us) (EP X pins σ Q) X.xe s := by
  have f0 : H s.heap.objs.size = none := I.hok.fresh (Nat.le_refl _)
  have f1 : H (s.heap.objs.size + 1) = none := I.hok.fresh (Nat.le_succ _)
  have h1 := h _ _ f1 f0 (Nat.ne_of_lt (Nat.lt_succ_self _))
  have I1 := Inv.made (C := C) I
  have r1 : Vals (V.ref (s.heap.objs.size + 1) :: vs) (Value.ref (s.heap.objs.size + 1) :: us) := .cons rfl r
  have n1 : (Value.ref (s.heap.objs.size + 1) :: us).length = ps.length := by
    rw [← F.many _ _ _ _ h1]
    exact r1.length.symm
  have b1 := hb _ _ I1.kIn (show (Value.ref (s.heap.objs.size + 1) :: us ++ []).length = ps.length by rw [List.append_nil]; exact n1)
  rw [List.append_nil] at b1
  have g1 : (X.A.under (.builtin "type.__call__" ⟨.ref C :: us, []⟩)).guards = some [] := by
    unfold Around.under
    simp only [g]
    first | rfl | simp [pushGuards, Code.guards, Code.isGuard, guardIds]
  refine wpAny_call (make_map (f := f) I.kIn M.makes M.init (beq_iff_eq.mp M.fn) (codeAny_mono (F.go _ _ _ _ _ _ _ _ E g1 (hr.make C us []) (I1.env0.make C us []) b1 r1 h1) ?_))
  intro res s' hq
  rcases res with e | fl
  · exact hx _ _ _ _ _ _ I1 hq
  · cases fl
    case ret u =>
      obtain ⟨v, H', I2, rv, ev, q2⟩ := I1.after hq
      subst ev
      exact ⟨rv, ⟨V.ref (s.heap.objs.size + 1), H', I2, rfl, q2⟩⟩
    all_goals exact hq.elim
end
/-- a def that may be called by its name -/
structure Cal (P : Program) (w : World) (K : PySem.W.Frag) (mg : Str → Option Value) (base : Heap) (CX : CXT) (k : Nat) (x : Str) (sp : Sp) : Prop where
  ex : ∃ (f : Addr) (fd : FuncData) (ps : List Str), Fn P w K mg base CX k f fd ps sp ∧ mg x = some (.ref f) ∧ PySem.W.keepIn K (.ref f) = true ∧ Binds K fd ps []
/-- a method of the class at C -/
structure Met (P : Program) (w : World) (K : PySem.W.Frag) (mg : Str → Option Value) (base : Heap) (CX : CXT) (k : Nat) (C : Addr) (m : Str) (sp : Sp) : Prop where
  ex : ∃ (f : Addr) (fd : FuncData) (ps : List Str), Cls K C ∧ Meth K C m f ∧ Fn P w K mg base CX k f fd ps sp ∧ Binds K fd ps []
/-- a class that is made by its name, sp its __init__ -/
structure Mak (P : Program) (w : World) (K : PySem.W.Frag) (mg : Str → Option Value) (base : Heap) (CX : CXT) (k : Nat) (x : Str) (C : Addr) (sp : Sp) : Prop where
  ex : ∃ (f : Addr) (fd : FuncData) (ps : List Str), Mk K C f ∧ Fn P w K mg base CX k f fd ps sp ∧ mg x = some (.ref C) ∧ Binds K fd ps []
section
variable {X : Cx} {CX : CXT} {k j : Nat} {C : Addr} {sp : Sp} {E : XK} {x m : Str} {p pos apos : Pos} {e o : Expr} {es : List Expr} {ta : TE} {t : TA}
def tCl (sp : Sp) (E : XK) (t : TA) : TE := fun σ H Q => t σ H fun vs H1 => sp vs H1 Q E
def tMt (C : Addr) (m : Str) (sp : Sp) (E : XK) (ta : TE) (t : TA) : TE := fun σ H Q => ta σ H fun x H1 => ∃ a dx fs, x = .ref a ∧ H1 a = some (.ins C dx fs) ∧ fs.lookup m = none ∧ t σ H1 fun vs H2 => sp (x :: vs) H2 Q E
def tMk (C : Addr) (sp : Sp) (E : XK) (t : TA) : TE := fun σ H Q => t σ H fun vs H1 => ∀ x dx, H1 x = none → H1 dx = none → dx ≠ x → sp (.ref x :: vs) (upd (upd H1 dx (.own x)) x (.ins C dx [])) (fun v H2 => v = .non ∧ Q (.ref x) H2) E
theorem ec (c : Cal X.prog X.w X.K X.mg X.base CX k x sp) (g : X.A.guards = some []) (hr : Room j X.A) (hk : k ≤ j) (hx : Passes CX X E) (hg : Gl X x) (ha : PA X (e :: es) t)
    (hdb : (x == ("__debug__" : Str)) = false := by decide) (he : starEach (e :: es) X.env = (false, eval e X.env) :: starEach es X.env := by rfl) (hpl : (backTo pos (starEach es X.env)).any (·.1) = false := by rfl) :
    PE X (.Call (.Name x p) (e :: es) [] pos) (tCl sp E t) := by
  obtain ⟨f, fd, ps, F, hm, kp, b⟩ := c.ex
  constructor
  intro pins s σ H Q I h
  apply wpAny_Call_Name_kw
  refine ld_glob I hg hm (PySem.W.callWith_K (h₀ := X.base) I.ok.mod.kin kp (thn (ha.run pos pins s σ H _ I h) ?_) he hpl) hdb
  rintro us s1 ⟨vs, H1, I1, r, q⟩
  exact ⟨I1.kIn, F.ran g (hr.mono hk) b hx I1 r q⟩
theorem emk (c : Mak X.prog X.w X.K X.mg X.base CX k x C sp) (g : X.A.guards = some []) (hr : Room j X.A) (hk : k + 1 ≤ j) (hx : Passes CX X E) (hg : Gl X x) (ha : PA X (e :: es) t)
    (hdb : (x == ("__debug__" : Str)) = false := by decide) (he : starEach (e :: es) X.env = (false, eval e X.env) :: starEach es X.env := by rfl) (hpl : (backTo pos (starEach es X.env)).any (·.1) = false := by rfl) :
    PE X (.Call (.Name x p) (e :: es) [] pos) (tMk C sp E t) := by
  obtain ⟨f, fd, ps, M, F, hm, b⟩ := c.ex
  constructor
  intro pins s σ H Q I h
  apply wpAny_Call_Name_kw
  refine ld_glob I hg hm (PySem.W.callWith_K (h₀ := X.base) I.ok.mod.kin M.kp (thn (ha.run pos pins s σ H _ I h) ?_) he hpl) hdb
  rintro us s1 ⟨vs, H1, I1, r, q⟩
  exact ⟨I1.kIn, F.made M g (hr.mono hk) b hx I1 r q⟩
theorem emt {pl : Sem Bool} (c : Met X.prog X.w X.K X.mg X.base CX k C m sp) (g : X.A.guards = some []) (hr : Room j X.A) (hk : k ≤ j) (hx : Passes CX X E) (he : PE X o ta) (ha : PA X (e :: es) t)
    (hst : starEach (e :: es) X.env = (false, eval e X.env) :: starEach es X.env := by rfl) (hpl : (backTo pos (starEach es X.env)).any (·.1) = false := by rfl)
    (ht : eval (.Call (.Attribute o m apos) (e :: es) [] pos) X.env = (do
      let ov ← eval o X.env
      standAt apos.atName
      let (f, first) ← holding [ov] (getMethod ov m pl)
      callWith pos f first (backTo pos (starEach (e :: es) X.env)) (backToKw pos (keywordEach [] X.env))) := by rfl) :
    PE X (.Call (.Attribute o m apos) (e :: es) [] pos) (tMt C m sp E ta t) := by
  obtain ⟨f, fd, ps, hc, hm, F, b⟩ := c.ex
  constructor
  intro pins s σ H Q I h
  refine PySem.W.methodCall_KW (pl := pl) (thn (he.run pins s σ H _ I h) ?_) ht
  rintro u s1 ⟨x, H1, I1, rx, a, dx, fs, rfl, ea, l, q⟩
  obtain rfl : u = Value.ref a := rx
  refine getmeth_ok I1 ea hc hm l (PySem.W.callWith_K (first := [.ref a]) (h₀ := X.base) I.ok.mod.kin hm.kp (thn (ha.run pos pins s1 σ H1 _ I1 q) ?_) hst hpl)
  rintro us s2 ⟨vs, H2, I2, r, q2⟩
  exact ⟨I2.kIn, F.ran (us := .ref a :: us) (vs := .ref a :: vs) g (hr.mono hk) b hx I2 (.cons rfl r) q2⟩
theorem emt0 {pl : Sem Bool} (c : Met X.prog X.w X.K X.mg X.base CX k C m sp) (g : X.A.guards = some []) (hr : Room j X.A) (hk : k ≤ j) (hx : Passes CX X E) (he : PE X o ta)
    (ht : eval (.Call (.Attribute o m apos) [] [] pos) X.env = (do
      let ov ← eval o X.env
      standAt apos.atName
      let (f, first) ← holding [ov] (getMethod ov m pl)
      callWith pos f first (backTo pos (starEach [] X.env)) (backToKw pos (keywordEach [] X.env))) := by rfl) :
    PE X (.Call (.Attribute o m apos) [] [] pos) (tMt C m sp E ta tNil) := by
  obtain ⟨f, fd, ps, hc, hm, F, b⟩ := c.ex
  constructor
  intro pins s σ H Q I h
  refine PySem.W.methodCall_KW (pl := pl) (thn (he.run pins s σ H _ I h) ?_) ht
  rintro u s1 ⟨x, H1, I1, rx, a, dx, fs, rfl, ea, l, q⟩
  obtain rfl : u = Value.ref a := rx
  exact getmeth_ok I1 ea hc hm l (PySem.W.callWith_K0 (first := [.ref a]) I1.kIn hm.kp (F.ran (us := [.ref a]) (vs := [.ref a]) g (hr.mono hk) b hx I1 (.cons rfl .nil) q))
end
/-! ### a def by its body -/
theorem fnG {CX : CXT} {P : Program} {w : World} {K : PySem.W.Frag} {mg : Str → Option Value} {base : Heap} {k : Nat} {x qual : Str} {st : Stmt} {f : Addr} {fd : FuncData} {N ps : List Str} {sp : Sp} (D : L2.Fun K x qual st f fd) (S : FnScope N ps (defScope st))
    (many : ∀ vs H Q E, sp vs H Q E → vs.length = ps.length)
    (body : ∀ (cdv : Value) (A : Around) (outer : List Env) (s : Shared) (H : Hp) (vs : List V) (Q : VK) (E : XK), A.guards = some [] → Room k (A.deeper (envOfC qual (defScope st) s.heap.objs.size f cdv)) → sp vs H Q E →
      ∃ t, PSs (cxOf CX P w K mg base N qual (defScope st) f cdv A outer s H E) (defBody st) t ∧ t { nx := fun _ H' => Q .non H', rt := Q } (start N vs) H) : Fn P w K mg base CX (k + 1) f fd ps sp := by
  obtain ⟨oc, od, kV, doc, pm, an, cdv, ct, osl, rfl, lk, hcd⟩ := D.ex
  refine ⟨many, ?_⟩
  intro A outer s H args us vs Q E g hr e0 hb r hsp
  have up : ∀ b o, base.get? b = some o → s.heap.get? b = some o := fun b o e => (e0.bs b o e).1
  have kin : K.In s.heap := e0.mod.kin.keeps up
  refine codeAny_call_function hr.depth (kin _ _ lk) rfl S.co S.gen rfl (PySem.W.codeRec_of kin hcd) (hb _ _ _ _ ?_)
  refine wpAny_newFunctionEnv_cells S.kind ?_ ?_
  · rintro ⟨n, v⟩ hy
    have hp := (List.of_mem_zip hy).1
    refine (S.par n hp).imp id fun q => ⟨q, PySem.W.cellsFrom_some _ _ _ (.inl q)⟩
  · rintro env rfl s1 x1
    refine ⟨(e0.mod.nolimit.keeps up).keeps x1.toInCall.keep, codeAny_func ?_⟩
    obtain ⟨t, ht, hq⟩ := body cdv A outer s H vs Q E g (hr.deeper _) hsp
    refine wpAny_mono (ht.run [] s1 (start N vs) H _ (inv_start S hr.hd e0 (many _ _ _ _ hsp) r x1) hq) ?_ (fun e s' hs => hs)
    intro fl s' hs
    cases fl
    case ret u =>
      obtain ⟨v, σ', H', J, rv, q⟩ := hs
      exact ⟨v, H', J.os, J.bare, J.base, J.hok, rv, q⟩
    case next =>
      obtain ⟨σ', H', J, q⟩ := hs
      exact ⟨V.non, H', J.os, J.bare, J.base, J.hok, rfl, q⟩
    case brk => exact (let ⟨_, _, _, q⟩ := hs; False.elim q)
    case cont => exact (let ⟨_, _, _, q⟩ := hs; False.elim q)
theorem fn0G {P : Program} {w : World} {K : PySem.W.Frag} {mg : Str → Option Value} {base : Heap} {k : Nat} {x qual : Str} {st : Stmt} {f : Addr} {fd : FuncData} {N ps : List Str} {sp : Sp} (D : L2.Fun K x qual st f fd) (S : FnScope N ps (defScope st))
    (many : ∀ vs H Q E, sp vs H Q E → vs.length = ps.length)
    (body : ∀ (cdv : Value) (A : Around) (outer : List Env) (s : Shared) (H : Hp) (vs : List V) (Q : VK) (E : XK), A.guards = some [] → Room k (A.deeper (envOfC qual (defScope st) s.heap.objs.size f cdv)) → sp vs H Q E →
      ∃ t, PSs (cxOf CX0 P w K mg base N qual (defScope st) f cdv A outer s H E).nox (defBody st) t ∧ t { nx := fun _ H' => Q .non H', rt := Q } (start N vs) H) : Fn P w K mg base CX0 (k + 1) f fd ps sp :=
  fnG D S many fun cdv A outer s H vs Q E g hr h => let ⟨t, ht, q⟩ := body cdv A outer s H vs Q E g hr h; ⟨t, ht.nox, q⟩
/-- a def of the module as the top left it -/
structure Df (K : PySem.W.Frag) (mg : Str → Option Value) (x : Str) (st : Stmt) (ps : List Str) : Prop where
  ex : ∃ (f : Addr) (fd : FuncData), L2.Fun K x x st f fd ∧ mg x = some (.ref f) ∧ Binds K fd ps []
/-- a method as the top left it -/
structure Md (K : PySem.W.Frag) (C : Addr) (m qual : Str) (st : Stmt) (ps : List Str) : Prop where
  ex : ∃ (f : Addr) (fd : FuncData), L2.Fun K m qual st f fd ∧ Meth K C m f ∧ Binds K fd ps []
section
variable {P : Program} {w : World} {K : PySem.W.Frag} {mg : Str → Option Value} {base : Heap} {k : Nat} {x m qual : Str} {st : Stmt} {N ps : List Str} {sp : Sp} {C : Addr}
theorem Df.cal (D : Df K mg x st ps) (S : FnScope N ps (defScope st)) (many : ∀ vs H Q E, sp vs H Q E → vs.length = ps.length)
    (body : ∀ (f : Addr) (cdv : Value) (A : Around) (outer : List Env) (s : Shared) (H : Hp) (vs : List V) (Q : VK) (E : XK), A.guards = some [] → Room k (A.deeper (envOfC x (defScope st) s.heap.objs.size f cdv)) → sp vs H Q E →
      ∃ t, PSs (cxOf CX0 P w K mg base N x (defScope st) f cdv A outer s H E).nox (defBody st) t ∧ t { nx := fun _ H' => Q .non H', rt := Q } (start N vs) H) : Cal P w K mg base CX0 (k + 1) x sp := by
  obtain ⟨f, fd, F, hm, b⟩ := D.ex
  refine ⟨f, fd, ps, fnG F S many (fun cdv A outer s H vs Q E g hr h => ?_), hm, F.kp, b⟩
  obtain ⟨t, ht, q⟩ := body f cdv A outer s H vs Q E g hr h
  exact ⟨t, ht.nox, q⟩
theorem Md.met (D : Md K C m qual st ps) (c : Cls K C) (S : FnScope N ps (defScope st)) (many : ∀ vs H Q E, sp vs H Q E → vs.length = ps.length)
    (body : ∀ (f : Addr) (cdv : Value) (A : Around) (outer : List Env) (s : Shared) (H : Hp) (vs : List V) (Q : VK) (E : XK), A.guards = some [] → Room k (A.deeper (envOfC qual (defScope st) s.heap.objs.size f cdv)) → sp vs H Q E →
      ∃ t, PSs (cxOf CX0 P w K mg base N qual (defScope st) f cdv A outer s H E).nox (defBody st) t ∧ t { nx := fun _ H' => Q .non H', rt := Q } (start N vs) H) : Met P w K mg base CX0 (k + 1) C m sp := by
  obtain ⟨f, fd, F, hm, b⟩ := D.ex
  refine ⟨f, fd, ps, c, hm, fnG F S many (fun cdv A outer s H vs Q E g hr h => ?_), b⟩
  obtain ⟨t, ht, q⟩ := body f cdv A outer s H vs Q E g hr h
  exact ⟨t, ht.nox, q⟩
theorem Md.mak (D : Md K C "__init__" qual st ps) (hm : mg x = some (.ref C)) (M : ∀ f, Meth K C "__init__" f → Mk K C f) (S : FnScope N ps (defScope st)) (many : ∀ vs H Q E, sp vs H Q E → vs.length = ps.length)
    (body : ∀ (f : Addr) (cdv : Value) (A : Around) (outer : List Env) (s : Shared) (H : Hp) (vs : List V) (Q : VK) (E : XK), A.guards = some [] → Room k (A.deeper (envOfC qual (defScope st) s.heap.objs.size f cdv)) → sp vs H Q E →
      ∃ t, PSs (cxOf CX0 P w K mg base N qual (defScope st) f cdv A outer s H E).nox (defBody st) t ∧ t { nx := fun _ H' => Q .non H', rt := Q } (start N vs) H) : Mak P w K mg base CX0 (k + 1) x C sp := by
  obtain ⟨f, fd, F, me, b⟩ := D.ex
  refine ⟨f, fd, ps, M f me, fnG F S many (fun cdv A outer s H vs Q E g hr h => ?_), hm, b⟩
  obtain ⟨t, ht, q⟩ := body f cdv A outer s H vs Q E g hr h
  exact ⟨t, ht.nox, q⟩
end
end Lf
end
section
set_option Elab.async false
set_option linter.all false
set_option maxRecDepth 100000
set_option maxHeartbeats 4000000
namespace Lf
open PySem PySem.Spec PyProof.Rows L2
/-! ### the law's call -/
/-- the heap at the law's entry, as far as it is told: nothing, or the script alone -/
theorem lawG0 {P : Program} {w : World} {K : PySem.W.Frag} {mg mb : Str → Option Value} {k : Nat} {fa a : Addr} {fd : FuncData} {x : Str} {sp : Sp} {s : Shared} {vs : List Value}
    (KX : K.In s.heap) (hns : s.heap.Ns mainGlobals mg) (hb : s.heap.Ns builtinsNs mb) (hbb : ∀ x : Str, x ≠ "__name__" → mb x = bootBuiltins x) (lim : s.heap.NoLimit) (hg : s.gens = #[])
    (ha : s.heap.get? a = some { cls := .type "list", data := .seq vs.toArray }) (F : ∀ base : Heap, K.In base → base.Ns mainGlobals mg → Fn P w K mg base CX0 k fa fd [x] sp)
    (hbind : ∀ (s : Shared) (u : Value), BindsTo s fd ⟨[u], []⟩ [(x, u)]) (hr : Room k callerA) (H : Hp) (hO : Only H) (hok : HOk P w H s.heap) (hA : ∀ b, H b ≠ none → b = a ∧ K.lookup a = none)
    (hsp : sp [.ref a] H (fun v _ => v = .bl true) fun _ _ _ => False) :
    codeAny (model P w) callerA (.call (.ref fa) ⟨[.ref a], []⟩) (fun r s' => r = .ok (.ret (.bool true)) ∧ OldK s.heap s'.heap ∧ s'.os = s.os ∧ AllBare s'.gens) s := by
  have free : ∀ b, (b = a → False) → H b = none := by
    intro b hb
    cases q : H b with
    | none => rfl
    | some u => exact (hb (hA b (by rw [q]; simp)).1).elim
  have mapped : ∀ {b : Addr} {m : Str → Option Value}, s.heap.Ns b m → (hidT s.heap H).Ns b m := by
    rintro b m ⟨o, es, ep, e, d, r⟩
    refine ⟨o, es, ep, hidT_get e (free b ?_), d, r⟩
    rintro rfl
    rw [ha] at e
    cases e
    cases (show Data.seq vs.toArray _ = Data.dict es ep from d)
  have kin : K.In (hidT s.heap H) := by
    intro b o e
    refine hidT_get (KX b o e) ?_
    cases q : H b with
    | none => rfl
    | some u =>
      obtain ⟨e1, e2⟩ := hA b (by rw [q]; simp)
      rw [e1, e2] at e
      cases e
  obtain ⟨mc, l1, l2⟩ := lim
  have e0 : Env0 P w K mg (hidT s.heap H) callerA [] s H :=
    ⟨rfl, ⟨kin, mapped hns, ⟨mb, mapped hb, hbb⟩, ⟨mc, mapped l1, l2⟩⟩, fun b o e => of_hidT e, Nat.le_of_eq (hidT_size _ _), trivial, fun b hb => (List.not_mem_nil hb).elim, hok, .of_eq hg⟩
  have run := (F _ kin (mapped hns)).go callerA [] s H ⟨[.ref a], []⟩ [.ref a] [.ref a] _ _ rfl hr e0 (hbind s (.ref a)) (.cons rfl .nil) hsp
  refine codeAny_mono run ?_
  intro r s' h
  rcases r with e | fl
  · exact (show False from h).elim
  · cases fl
    case ret u =>
      obtain ⟨v, H', os, bare, un, hok', r', q⟩ := h
      obtain rfl : v = .bl true := q
      obtain rfl : u = Value.bool true := r'
      refine ⟨rfl, OldK.of_keep ?_, os, bare⟩
      intro b o e
      rcases hO b with q | ⟨ob, xs, q⟩
      · exact un.keep b o e q (fun z => (List.not_mem_nil z).elim) (fun z => (List.not_mem_nil z).elim)
      · have e1 := (hok b _ q).1
        have e2 := (hok' b _ (un.frzs b ob _ q)).1
        rw [e] at e1
        cases e1
        exact e2
    all_goals exact (show False from h).elim
theorem lawG {P : Program} {w : World} {K : PySem.W.Frag} {mg mb : Str → Option Value} {k : Nat} {fa a : Addr} {fd : FuncData} {x : Str} {sp : Sp} {s : Shared} {vs : List Value} {ns : List Int}
    (KX : K.In s.heap) (hns : s.heap.Ns mainGlobals mg) (hb : s.heap.Ns builtinsNs mb) (hbb : ∀ x : Str, x ≠ "__name__" → mb x = bootBuiltins x) (lim : s.heap.NoLimit) (hg : s.gens = #[])
    (ha : s.heap.get? a = some { cls := .type "list", data := .seq vs.toArray }) (hi : IntsAre vs ns) (hl : ns.length ≤ sizeLine) (F : ∀ base : Heap, K.In base → base.Ns mainGlobals mg → Fn P w K mg base CX0 k fa fd [x] sp)
    (hbind : ∀ (s : Shared) (u : Value), BindsTo s fd ⟨[u], []⟩ [(x, u)]) (hr : Room k callerA) (hsp : ∀ H : Hp, Only H → SqL K H a (ns.map V.int) → sp [.ref a] H (fun v _ => v = .bl true) fun _ _ _ => False) :
    codeAny (model P w) callerA (.call (.ref fa) ⟨[.ref a], []⟩) (fun r s' => r = .ok (.ret (.bool true)) ∧ OldK s.heap s'.heap ∧ s'.os = s.os ∧ AllBare s'.gens) s := by
  have rv : Vals (ns.map V.int) vs := vals_ints hi
  have many := hi.length
  cases hk : K.lookup a with
  | some o =>
    have e := KX a o hk
    rw [ha] at e
    cases e
    have hS : SqL K (fun _ => none) a (ns.map V.int) := .inr ⟨_, vs.toArray, _, hk, rfl, rfl, rfl, by rw [List.size_toArray, many]; exact hl, by simpa using rv⟩
    exact lawG0 KX hns hb hbb lim hg ha F hbind hr (fun _ => none) (fun _ => .inl rfl) (fun b u z => nomatch (show (none : Option HO) = some u from z)) (fun b z => (z rfl).elim) (hsp _ (fun _ => .inl rfl) hS)
  | none =>
    let H : Hp := upd (fun _ => none) a (.frz { cls := .type "list", data := .seq vs.toArray } (.lst (ns.map V.int)))
    have hH : H a = some (.frz { cls := .type "list", data := .seq vs.toArray } (.lst (ns.map V.int))) := upd_same
    have hN : ∀ b, b ≠ a → H b = none := fun b hb => upd_ne hb
    have hO : Only H := by
      intro b
      by_cases e : b = a
      · subst e
        exact .inr ⟨_, _, hH⟩
      · exact .inl (hN b e)
    refine lawG0 KX hns hb hbb lim hg ha F hbind hr H hO ?_ ?_ (hsp H hO (.inl (.inr ⟨_, hH⟩)))
    · intro b u z
      by_cases e : b = a
      · subst e
        rw [hH] at z
        cases z
        exact ⟨ha, by rw [List.length_map]; exact hl, vs, _, rv, ha⟩
      · rw [hN b e] at z
        cases z
    · intro b z
      refine ⟨?_, hk⟩
      by_cases e : b = a
      · exact e
      · exact (z (hN b e)).elim
/-- the goal that the head leaves, from the law's promise -/
theorem walkG {l : PySem.W.OpenLaw} {k : Nat} {q : Program} {loose : List Str} {XP : (Str → Option Value) → Heap → Prop} {YP : World → Heap → Prop} {d : DefRec} {K : Params → PySem.W.Frag} {sp : World → Sp} {x : Str}
    (hn : l.most = some 63) (hdf : d.params.defaults = []) (hr : Room k callerA) (hY : ∀ (w : World) (h : Heap), YP w h → (K w.params).In h)
    (F : ∀ (w : World) (mg : Str → Option Value) (fa : Addr) (h : Heap), (K w.params).In h → h.Ns mainGlobals mg → mg d.name = some (.ref fa) →
      ∃ fd : FuncData, (∀ (s : Shared) (u : Value), BindsTo s fd ⟨[u], []⟩ [(x, u)]) ∧ ∀ base : Heap, (K w.params).In base → base.Ns mainGlobals mg → Fn l.prog w (K w.params) mg base CX0 k fa fd [x] (sp w))
    (hsp : ∀ (w : World) (H : Hp) (a : Addr) (ns : List Int), ns.length ≤ 63 → Only H → SqL (K w.params) H a (ns.map V.int) → sp w [.ref a] H (fun v _ => v = .bl true) fun _ _ _ => False) :
    PySem.W.WalkO q loose XP YP l.row.toRowW d [] (fun f vs => PySem.call f vs) := by
  refine Att.attach_call hn hdf ?_
  intro w s₀ s₁ mg mb fa o pm cd doc a vs ns G Y ho hd hcd hmg hobj hints hlen hg
  have KX := hY w _ Y
  obtain ⟨fd, hb, hF⟩ := F w mg fa _ KX G.T.g hmg
  exact lawG KX G.T.g G.T.b G.T.builtins G.T.nolimit hg hobj hints (Nat.le_trans hlen (by decide)) hF hb hr (fun H hO hS => hsp w H a ns hlen hO hS)
/-! ### repr of data at any depth -/
section
variable {X : Cx}
def rRepr (K : PySem.W.Frag) : List V → Hp → VK → Prop := fun xs H Q => ∃ v d, xs = [v] ∧ Dp K H v d ∧ d.showable = true ∧ d.hasDict = false ∧ d.depth ≤ 60 ∧ d.shown.length ≤ sizeLine ∧ Q (.str d.shown) H
theorem cr_repr (g : X.A.guards = some []) (hu : X.A.units + 64 < cLine) : CallR X (.builtin "repr") (rRepr X.K) := by
  intro pins s σ H xs us Q I r h
  obtain ⟨v, d, rfl, hd, hs, hnd, hdep, hz, q⟩ := h
  obtain ⟨u, rfl, rv⟩ := vals1 r
  cases hd with
  | non => cases rv; exact PySem.P.repr_of_none ⟨.str _, H, I.tok _, ⟨_, rfl⟩, q⟩
  | bl b =>
    cases rv
    refine PySem.P.repr_of_bool ⟨.str _, H, I.tok _, ⟨_, rfl⟩, ?_⟩
    cases b <;> exact q
  | int i =>
    obtain ⟨t, rfl⟩ := rv
    exact PySem.P.repr_of_int (of_decide_eq_true hs) ⟨.str _, H, I.tok _, ⟨_, rfl⟩, q⟩
  | str x =>
    obtain ⟨t, rfl⟩ := rv
    exact PySem.P.repr_of_str ⟨.str _, H, I.tok _, ⟨_, rfl⟩, q⟩ hz
  | lst h1 h2 =>
    obtain ⟨as, rd⟩ := Dp.reads I _ _ _ (Dp.lst h1 h2) rv
    cases rv
    exact repr_of_reads' rd hs (fun z => by rw [hnd] at z; cases z) g (by omega) (fun b o e => e) (fun h' u tk hk => ⟨.str _, H, I.kept hk, ⟨_, rfl⟩, q⟩) hz
  | tup h1 h2 =>
    obtain ⟨as, rd⟩ := Dp.reads I _ _ _ (Dp.tup h1 h2) rv
    cases rv
    exact repr_of_reads' rd hs (fun z => by rw [hnd] at z; cases z) g (by omega) (fun b o e => e) (fun h' u tk hk => ⟨.str _, H, I.kept hk, ⟨_, rfl⟩, q⟩) hz
end
end Lf
end
section
set_option Elab.async false
set_option linter.all false
set_option maxRecDepth 100000
set_option maxHeartbeats 4000000
namespace Lf
open PySem PySem.Spec PyProof.Rows L2
open Evl
theorem u65 {k : Nat} {A : Around} (hr : Room k A) : A.units + 65 < cLine := by have := hr.un; omega
/-! ### data, kept -/
mutual
theorem dp_ex {K : PySem.W.Frag} {H H' : Hp} (e : Ex H H') : ∀ (d : PyData) (v : V), Dp K H v d → Dp K H' v d
  | .none, _, h => by cases h; exact .non
  | .bool b, _, h => by cases h; exact .bl b
  | .int i, _, h => by cases h; exact .int i
  | .str x, _, h => by cases h; exact .str x
  | .list ds, _, h => by
    cases h with
    | lst h1 h2 => exact .lst (ex_l e h1) (dps_ex e ds _ h2)
  | .tuple ds, _, h => by
    cases h with
    | tup h1 h2 => exact .tup (ex_t e h1) (dps_ex e ds _ h2)
  | .dict _, _, h => by cases h
theorem dps_ex {K : PySem.W.Frag} {H H' : Hp} (e : Ex H H') : ∀ (ds : List PyData) (vs : List V), DpAll K H vs ds → DpAll K H' vs ds
  | [], _, h => by cases h; exact .nil
  | d :: ds, _, h => by
    cases h with
    | cons h1 h2 => exact .cons (dp_ex e d _ h1) (dps_ex e ds _ h2)
end
theorem Dp.ex {K : PySem.W.Frag} {H H' : Hp} {v : V} {d : PyData} (h : Dp K H v d) (e : Ex H H') : Dp K H' v d := dp_ex e d v h
theorem Dps.ex {K : PySem.W.Frag} {H H' : Hp} {vs : List V} {ds : List PyData} (h : DpAll K H vs ds) (e : Ex H H') : DpAll K H' vs ds := dps_ex e ds vs h
theorem dp_list {K : PySem.W.Frag} {H : Hp} {v : V} {ds : List PyData} (h : Dp K H v (.list ds)) : ∃ a xs, v = .ref a ∧ SqL K H a xs ∧ DpAll K H xs ds := by
  cases h with
  | lst h1 h2 => exact ⟨_, _, rfl, h1, h2⟩
theorem dp_tup {K : PySem.W.Frag} {H : Hp} {v : V} {ds : List PyData} (h : Dp K H v (.tuple ds)) : ∃ a xs, v = .ref a ∧ SqT K H a xs ∧ DpAll K H xs ds := by
  cases h with
  | tup h1 h2 => exact ⟨_, _, rfl, h1, h2⟩
theorem dp_int {K : PySem.W.Frag} {H : Hp} {v : V} {i : Int} (h : Dp K H v (.int i)) : v = .int i := by cases h; rfl
theorem Dps.len {K : PySem.W.Frag} {H : Hp} : ∀ {vs : List V} {ds : List PyData}, DpAll K H vs ds → vs.length = ds.length
  | _, _, .nil => rfl
  | _, _, .cons _ t => congrArg (· + 1) (Dps.len t)
theorem Dps.get {K : PySem.W.Frag} {H : Hp} : ∀ {vs : List V} {ds : List PyData} {i : Nat} {v : V}, DpAll K H vs ds → vs[i]? = some v → ∃ d, ds[i]? = some d ∧ Dp K H v d
  | _, _, 0, _, .cons h _, e => by simp at e; subst e; exact ⟨_, rfl, h⟩
  | _, _, i + 1, _, .cons _ t, e => by
    obtain ⟨d, h1, h2⟩ := Dps.get (i := i) t (by simpa using e)
    exact ⟨d, by simpa using h1, h2⟩
theorem Dps.get2 {K : PySem.W.Frag} {H : Hp} : ∀ {vs : List V} {ds : List PyData} {i : Nat} {d : PyData}, DpAll K H vs ds → ds[i]? = some d → ∃ v, vs[i]? = some v ∧ Dp K H v d
  | _, _, 0, _, .cons h _, e => by simp at e; subst e; exact ⟨_, rfl, h⟩
  | _, _, i + 1, _, .cons _ t, e => by
    obtain ⟨d, h1, h2⟩ := Dps.get2 (i := i) t (by simpa using e)
    exact ⟨d, by simpa using h1, h2⟩
theorem Dps.app {K : PySem.W.Frag} {H : Hp} : ∀ {vs ws : List V} {ds es : List PyData}, DpAll K H vs ds → DpAll K H ws es → DpAll K H (vs ++ ws) (ds ++ es)
  | _, _, _, _, .nil, h => h
  | _, _, _, _, .cons h t, h2 => .cons h (Dps.app t h2)
theorem Dps.ints {K : PySem.W.Frag} {H : Hp} : ∀ {ns : List Int}, DpAll K H (ns.map V.int) (ns.map PyData.int)
  | [] => .nil
  | n :: _ => .cons (.int n) Dps.ints
theorem Dps.ints_inv {K : PySem.W.Frag} {H : Hp} : ∀ {ns : List Int} {vs : List V}, DpAll K H vs (ns.map PyData.int) → vs = ns.map V.int
  | [], _, h => by cases h; rfl
  | n :: ns, _, h => by
    cases h with
    | cons h1 h2 =>
      have e1 := dp_int h1
      have e2 := Dps.ints_inv h2
      rw [e1, e2, List.map_cons]
theorem Dps.take {K : PySem.W.Frag} {H : Hp} : ∀ {vs : List V} {ds : List PyData} (n : Nat), DpAll K H vs ds → DpAll K H (vs.take n) (ds.take n)
  | _, _, 0, _ => .nil
  | _, _, _ + 1, .nil => .nil
  | _, _, n + 1, .cons h t => .cons h (Dps.take n t)
theorem Dps.drop {K : PySem.W.Frag} {H : Hp} : ∀ {vs : List V} {ds : List PyData} (n : Nat), DpAll K H vs ds → DpAll K H (vs.drop n) (ds.drop n)
  | _, _, 0, h => h
  | _, _, _ + 1, .nil => .nil
  | _, _, n + 1, .cons _ t => Dps.drop n t
theorem ty_of_l {K : PySem.W.Frag} {H : Hp} {a : Addr} {xs : List V} (h : SqL K H a xs) : TyX K H (.ref a) (.type "list") := by
  rcases h with (h | ⟨o, h⟩) | ⟨o, its, n, h1, h2, _⟩
  · exact .base (.lst h)
  · exact .base (.frz h)
  · exact .kList h1 h2
theorem ty_of_t {K : PySem.W.Frag} {H : Hp} {a : Addr} {xs : List V} (h : SqT K H a xs) : TyX K H (.ref a) (.type "tuple") := by
  rcases h with (h | ⟨o, h⟩) | ⟨o, its, n, h1, h2, _⟩
  · exact .base (.tup h)
  · exact .fTuple h
  · exact .kTuple h1 h2
/-! ### what evaluates to what, for our own calls -/
section
variable {K : PySem.W.Frag} {σ : L2.St} {H H' : Hp} {ta tb te tx : TE} {t u : TT} {x y z v : V} {r : R2}
def SV (sp : Sp) (vs : List V) (H : Hp) (z : V) : Prop := ∀ H1, Ex H H1 → ∀ Q : VK, RetV z H1 Q → ∀ E : XK, sp vs H1 Q E
def SL (sp : Sp) (vs : List V) (H : Hp) (xs : List V) : Prop := ∀ H1, Ex H H1 → ∀ Q : VK, RetL xs H1 Q → ∀ E : XK, sp vs H1 Q E
theorem ev_cl {sp : Sp} {vs : List V} {E : XK} {ta : TA} (h : EvA ta σ H vs) (hs : SV sp vs H z) : Ev (tCl sp E ta) σ H z := fun H1 e Q q =>
  h H1 e _ fun H2 e2 => hs H2 (e.trans e2) Q (fun H3 e3 => q H3 (e2.trans e3)) E
theorem el_cl {sp : Sp} {vs xs : List V} {E : XK} {ta : TA} (h : EvA ta σ H vs) (hs : SL sp vs H xs) : EvL (tCl sp E ta) σ H xs := fun H1 e Q q =>
  h H1 e _ fun H2 e2 => hs H2 (e.trans e2) Q (fun p H3 hp e3 h3 => q p H3 (fresh_back e2 hp) (e2.trans e3) h3) E
theorem ev_mt {C a dx : Addr} {m : Str} {fs : List (Str × V)} {sp : Sp} {vs : List V} {E : XK} {tr : TA} (ho : Ev ta σ H (.ref a)) (hi : H a = some (.ins C dx fs)) (hm : fs.lookup m = none) (h : EvA tr σ H vs) (hs : SV sp (.ref a :: vs) H z) : Ev (tMt C m sp E ta tr) σ H z := fun H1 e Q q =>
  ho H1 e _ fun H2 e2 => ⟨a, dx, fs, rfl, e2 _ _ (e _ _ hi), hm, h H2 (e.trans e2) _ fun H3 e3 => hs H3 ((e.trans e2).trans e3) Q (fun H4 e4 => q H4 ((e2.trans e3).trans e4)) E⟩
theorem el_mt {C a dx : Addr} {m : Str} {fs : List (Str × V)} {sp : Sp} {vs xs : List V} {E : XK} {tr : TA} (ho : Ev ta σ H (.ref a)) (hi : H a = some (.ins C dx fs)) (hm : fs.lookup m = none) (h : EvA tr σ H vs) (hs : SL sp (.ref a :: vs) H xs) : EvL (tMt C m sp E ta tr) σ H xs := fun H1 e Q q =>
  ho H1 e _ fun H2 e2 => ⟨a, dx, fs, rfl, e2 _ _ (e _ _ hi), hm, h H2 (e.trans e2) _ fun H3 e3 => hs H3 ((e.trans e2).trans e3) Q (fun p H4 hp e4 h4 => q p H4 (fresh_back e2 (fresh_back e3 hp)) ((e2.trans e3).trans e4) h4) E⟩
theorem ev_fld {C a dx : Addr} {f : Str} {fs : List (Str × V)} (ho : Ev ta σ H (.ref a)) (hi : H a = some (.ins C dx fs)) (cl : Cls K C) (na : NoAttr K C f) (hl : fs.lookup f = some v) : Ev (tFld K ta f) σ H v := fun H1 e Q q =>
  ho H1 e _ fun H2 e2 => ⟨a, C, dx, fs, v, rfl, e2 _ _ (e _ _ hi), cl, na, hl, q H2 e2⟩
theorem ev_any {bs : List Bool} (h : EvL te σ H (bs.map V.bl)) : Ev (tCB (rAny K) (tCons te tNil)) σ H (.bl (bs.any id)) := fun H1 e Q q =>
  h H1 e _ fun p H2 _ e2 hp => ⟨p, bs, rfl, sq_of hp, q H2 e2⟩
theorem ev_all {bs : List Bool} (h : EvL te σ H (bs.map V.bl)) : Ev (tCB (rAll K) (tCons te tNil)) σ H (.bl (bs.all id)) := fun H1 e Q q =>
  h H1 e _ fun p H2 _ e2 hp => ⟨p, bs, rfl, sq_of hp, q H2 e2⟩
theorem ev_chain {r r' : R2} {tc : TE} {a b : Bool} (ha : Ev ta σ H x) (hb : Ev tb σ H y) (h1 : RV r x y H (.bl a)) (hc : a = true → Ev tc σ H z) (h2 : a = true → RV r' y z H (.bl b)) : Ev (tChain r r' ta tb tc) σ H (.bl (a && b)) := fun H1 e Q q =>
  ha H1 e _ fun H2 e2 => hb H2 (e.trans e2) _ fun H3 e3 => h1 H3 ((e.trans e2).trans e3) _ fun H4 e4 => ⟨a, rfl, by
    cases a with
    | true =>
      refine iteT ?_
      refine hc rfl H4 (((e.trans e2).trans e3).trans e4) _ fun H5 e5 => ?_
      exact h2 rfl H5 ((((e.trans e2).trans e3).trans e4).trans e5) Q fun H6 e6 => q H6 ((((e2.trans e3).trans e4).trans e5).trans e6)
    | false => exact iteF (q H4 ((e2.trans e3).trans e4))⟩
theorem ev_lenL {p : Addr} {xs : List V} (ha : Ev ta σ H (.ref p)) (h : SqL K H p xs) : Ev (tCB (fun xs H Q => ∃ p ys, xs = [V.ref p] ∧ (SqL K H p ys ∨ SqT K H p ys) ∧ Q (.int ys.length) H) (tCons ta tNil)) σ H (.int (xs.length : Int)) := fun H1 e Q q =>
  ha H1 e _ fun H2 e2 => ⟨p, xs, rfl, Or.inl (ex_l (e.trans e2) h), q H2 e2⟩
theorem ev_lenT {p : Addr} {xs : List V} (ha : Ev ta σ H (.ref p)) (h : SqT K H p xs) : Ev (tCB (fun xs H Q => ∃ p ys, xs = [V.ref p] ∧ (SqL K H p ys ∨ SqT K H p ys) ∧ Q (.int ys.length) H) (tCons ta tNil)) σ H (.int (xs.length : Int)) := fun H1 e Q q =>
  ha H1 e _ fun H2 e2 => ⟨p, xs, rfl, Or.inr (ex_t (e.trans e2) h), q H2 e2⟩
theorem ev_lenF {xs : List V} (ha : EvL ta σ H xs) : Ev (tCB (fun xs H Q => ∃ p ys, xs = [V.ref p] ∧ (SqL K H p ys ∨ SqT K H p ys) ∧ Q (.int ys.length) H) (tCons ta tNil)) σ H (.int (xs.length : Int)) := fun H1 e Q q =>
  ha H1 e _ fun p H2 _ e2 hp => ⟨p, xs, rfl, Or.inl (sq_of hp), q H2 e2⟩
theorem el_listL {p : Addr} {xs : List V} (ha : Ev ta σ H (.ref p)) (h : SqL K H p xs) : EvL (tCB (fun xs H Q => ∃ p ys, xs = [V.ref p] ∧ (SqL K H p ys ∨ SqT K H p ys) ∧ ∀ l, H l = none → Q (.ref l) (upd H l (.lst ys))) (tCons ta tNil)) σ H xs := fun H1 e Q q =>
  ha H1 e _ fun H2 e2 => ⟨p, xs, rfl, Or.inl (ex_l (e.trans e2) h), fun l hl => q l _ (fresh_back e2 hl) (e2.trans (Ex.new hl)) upd_same⟩
theorem given_all (n : Nat) (v : Nat → V) : given n (fun _ => true) v = (List.range n).map v := by
  unfold given
  rw [List.filter_eq_self.mpr (fun _ _ => rfl)]
theorem yes_ok {σ : L2.St} {H : Hp} : EvT tYes σ H true := fun H1 _ _ q => q H1 (Ex.refl H1)
/-- [e for x in xs], all, by places -/
theorem el_map {a : Addr} {xs : List V} {tl : TE} {j : Nat} {vs : List Nat} (v : Nat → V) (h : Ev tl σ H (.ref a)) (hx : SqL K H a xs) (hz : xs.length ≤ 40000) (hw : ∀ x, wipe ((wipe σ vs).set j (some x)) vs = wipe σ vs)
    (he : ∀ (i : Nat) (x : V) H1, Ex H H1 → xs[i]? = some x → Ev te ((wipe σ vs).set j (some x)) H1 (v i)) : EvL (tLc (iList K tl) (gName j) tYes te vs) σ H ((List.range xs.length).map v) := by
  rw [← given_all]
  exact el_lcL (fun _ => true) v h hx hz hw (fun _ _ _ _ _ => yes_ok) (fun i x H1 e hi _ => he i x H1 e hi)
theorem el_mapT {a : Addr} {xs : List V} {tl : TE} {j : Nat} {vs : List Nat} (v : Nat → V) (h : Ev tl σ H (.ref a)) (hx : SqT K H a xs) (hz : xs.length ≤ 40000) (hw : ∀ x, wipe ((wipe σ vs).set j (some x)) vs = wipe σ vs)
    (he : ∀ (i : Nat) (x : V) H1, Ex H H1 → xs[i]? = some x → Ev te ((wipe σ vs).set j (some x)) H1 (v i)) : EvL (tLc (iTup K tl) (gName j) tYes te vs) σ H ((List.range xs.length).map v) := by
  rw [← given_all]
  exact fun H0 e Q q => h H0 e _ fun H1 e1 => ⟨a, rfl, ⟨xs, ex_t (e.trans e1) hx⟩, fun Dl hD =>
    lc_tup (xs := xs) (Cw H1 (fun _ => true) v Dl) ⟨hD, Ex.new hD, upd_same⟩ (fun i H' _ p => ex_t ((e.trans e1).trans p.2.1) hx) (fun i x H' hi p => ⟨hw x, cw_turn p (by have := (List.getElem?_eq_some_iff.mp hi).1; omega) yes_ok (fun _ => he i x H1 (e.trans e1) hi)⟩)
      (fun H' p => q Dl H' (fresh_back e1 p.1) (e1.trans p.2.1) p.2.2)⟩
/-- [e for x, y in zip(a, b)], all -/
theorem el_mapZ {ta : TA} {a : Addr} {xs ys : List V} {j1 j2 n : Nat} {vs : List Nat} (v : Nat → V) (hA : ∀ H1, Ex H H1 → ∀ Q : List V → Hp → Prop, (∀ b H2, Ex H1 H2 → SqL K H2 b ys → Q [.ref a, .ref b] H2) → ta σ H1 Q) (hx : SqL K H a xs)
    (hn : n ≤ xs.length ∧ n ≤ ys.length ∧ (xs.length ≤ n ∨ ys.length ≤ n)) (hz : n ≤ 40000) (hw : ∀ x y, wipe (((wipe σ vs).set j1 (some x)).set j2 (some y)) vs = wipe σ vs)
    (he : ∀ (i : Nat) (x y : V) H1, Ex H H1 → xs[i]? = some x → ys[i]? = some y → Ev te (((wipe σ vs).set j1 (some x)).set j2 (some y)) H1 (v i)) : EvL (tLc (iZip K ta) (gTup K 2 (gCons (gName j1) (gCons (gName j2) gNil))) tYes te vs) σ H ((List.range n).map v) := by
  rw [← given_all]
  intro H0 e Q q
  refine hA H0 e _ fun b H1 e1 hy => ⟨a, b, xs, ys, rfl, ex_l (e.trans e1) hx, hy, fun D hD => ?_⟩
  refine ⟨fun i m H' => m = n - i ∧ i ≤ n ∧ Cw H1 (fun _ => true) v D i H', ⟨n, by simp, Nat.zero_le _, hD, Ex.new hD, upd_same⟩, ?_⟩
  rintro i m H' ⟨rfl, hi, p⟩
  have hxs : SqL K H' a xs := ex_l ((e.trans e1).trans p.2.1) hx
  have hys : SqL K H' b ys := ex_l p.2.1 hy
  by_cases hlt : i < n
  · have gx : xs[i]? = some xs[i] := List.getElem?_eq_getElem (by omega)
    have gy : ys[i]? = some ys[i] := List.getElem?_eq_getElem (by omega)
    refine .inr ⟨⟨xs, ys, _, _, hxs, hys, gx, gy⟩, Cw H1 (fun _ => true) v D (i + 1), fun H2 p2 => ⟨n - (i + 1), by omega, rfl, hlt, p2⟩, ?_⟩
    rintro z H2 ⟨T, x, y, rfl, hT, rfl, fx, fy⟩
    have ex := Option.some.inj ((fx _ hxs).symm.trans gx)
    have ey := Option.some.inj ((fy _ hys).symm.trans gy)
    subst ex ey
    have pT : Cw H1 (fun _ => true) v D i (upd H' T (.tup [xs[i], ys[i]])) := ⟨p.1, p.2.1.trans (Ex.new hT), (Ex.new hT) _ _ p.2.2⟩
    refine ⟨T, _, rfl, .inl (.inl upd_same), rfl, _, _, rfl, _, _, rfl, rfl, hw _ _, ?_⟩
    exact cw_turn pT (by omega) yes_ok (fun _ => he i _ _ H1 (e.trans e1) gx gy)
  · have hin : i = n := by omega
    subst hin
    refine .inl ⟨⟨xs, ys, hxs, hys, by omega⟩, ?_⟩
    exact q D H' (fresh_back e1 p.1) (e1.trans p.2.1) p.2.2
end
end Lf
end
section
set_option Elab.async false
set_option linter.all false
set_option maxRecDepth 100000
set_option maxHeartbeats 4000000
/-! the rules with the fragment named (a block's rule must not speak of the block) -/
namespace Lf
open PySem PySem.Spec PyProof.Rows L2
section
variable {X : Cx} {K : PySem.W.Frag}
theorem kop {r : PySem.W.Frag → R2} {f : Value → Value → Sem Value} (h : OpR X f (r X.K)) (e : X.K = K) : OpR X f (r K) := by
  subst e
  exact h
theorem kix {r : PySem.W.Frag → R2} (h : IxR X (r X.K)) (e : X.K = K) : IxR X (r K) := by
  subst e
  exact h
theorem kcr {r : PySem.W.Frag → List V → Hp → VK → Prop} {f : Value} (h : CallR X f (r X.K)) (e : X.K = K) : CallR X f (r K) := by
  subst e
  exact h
theorem ksl {r : PySem.W.Frag → V → Option Int → Option Int → Hp → VK → Prop} (h : SlR X (r X.K)) (e : X.K = K) : SlR X (r K) := by
  subst e
  exact h
theorem kget {r : PySem.W.Frag → V → V → Hp → VK → Prop} (h : PGet X (r X.K)) (e : X.K = K) : PGet X (r K) := by
  subst e
  exact h
def rLen (K : PySem.W.Frag) : List V → Hp → VK → Prop := fun xs H Q => ∃ p ys, xs = [V.ref p] ∧ (SqL K H p ys ∨ SqT K H p ys) ∧ Q (.int ys.length) H
def rLst (K : PySem.W.Frag) : List V → Hp → VK → Prop := fun xs H Q => ∃ p ys, xs = [V.ref p] ∧ (SqL K H p ys ∨ SqT K H p ys) ∧ ∀ l, H l = none → Q (.ref l) (upd H l (.lst ys))
def rTpl (K : PySem.W.Frag) : List V → Hp → VK → Prop := fun xs H Q => ∃ p ys, xs = [V.ref p] ∧ ((SqL K H p ys ∧ ∀ l, H l = none → Q (.ref l) (upd H l (.tup ys))) ∨ (SqT K H p ys ∧ Q (.ref p) H))
theorem k_len (e : X.K = K) : CallR X (.builtin "len") (rLen K) := by
  subst e
  exact call_len_seq
theorem k_lst (e : X.K = K) : CallR X (.type "list") (rLst K) := by
  subst e
  exact call_list_of
theorem k_tpl (e : X.K = K) : CallR X (.type "tuple") (rTpl K) := by
  subst e
  exact call_tuple_of
variable {e o : Expr} {es : List Expr} {pos apos cpos : Pos} {f name : Str} {ta to te : TE} {t : TA} {T id : String} {tg : Expr}
theorem k_fld (k : X.K = K) (he : PE X e ta) (hb : attributeBase e f X.env (eval e X.env) = eval e X.env) : PE X (.Attribute e f pos) (tFld K ta f) := by
  subst k
  exact pe_fld he hb
theorem k_bm0 {r : V → List V → Hp → VK → Prop} (k : X.K = K) (pa : PlainAttrs T) (slot : Slot T name id) (hty : typeOf (.builtin id) = pure (.type "method_descriptor")) (hm : MtR X id r) (ho : PE X o to)
    (hbase : attributeBase o name X.env (eval o X.env) = eval o X.env := by rfl) (hline : (apos.endLine == cpos.line) = true := by rfl) : PE X (.Call (.Attribute o name apos) [] [] cpos) (tBM0 K T r to) := by
  subst k
  exact pe_bm0 pa slot hty hm ho hbase hline
theorem k_bm {r : V → List V → Hp → VK → Prop} (k : X.K = K) (pa : PlainAttrs T) (slot : Slot T name id) (hty : typeOf (.builtin id) = pure (.type "method_descriptor")) (hm : MtR X id r) (ho : PE X o to) (ha : PA X (e :: es) t)
    (hbase : attributeBase o name X.env (eval o X.env) = eval o X.env := by rfl)
    (hfew : ((backTo cpos (starEach (e :: es) X.env)).all (fun x => !x.1) && (backToKw cpos (keywordEach [] X.env)).all (fun x => x.1.isSome)
      && decide ((e :: es).length + ([] : List Keyword).length + (if ([] : List Keyword).isEmpty then 0 else 1) < 30)) = true := by rfl)
    (hline : (apos.endLine == cpos.line) = true := by rfl) (hs : starEach (e :: es) X.env = (false, eval e X.env) :: starEach es X.env := by rfl) (hplain : (backTo cpos (starEach es X.env)).any (·.1) = false := by rfl) :
    PE X (.Call (.Attribute o name apos) (e :: es) [] cpos) (tBM K T r to t) := by
  subst k
  exact pe_bm pa slot hty hm ho ha hbase hfew hline hs hplain
theorem k_list {l : Expr} {tl : TE} (k : X.K = K) (hl : PE X l tl) : PI X tg l (iList K tl) := by
  subst k
  exact pi_list hl
theorem k_tup {l : Expr} {tl : TE} (k : X.K = K) (hl : PE X l tl) : PI X tg l (iTup K tl) := by
  subst k
  exact pi_tup hl
theorem k_gtup {es : List Expr} {kk : Nat} {t : TGs} {n : Nat} (k : X.K = K) (hc : X.calm = true) (h : PGs X es t)
    (hn : (assignEach es X.env).length = n := by rfl) (hst : (assignEach es X.env).findIdx? (·.1) = none := by rfl) : PG X (.Tuple es kk pos) (gTup K n t) := by
  subst k
  exact pg_tup hc h hn hst
theorem k_revL {p1 p2 p3 : Pos} {kk : Nat} (k : X.K = K) (he : PE X e te) : PE X (.Subscript e (.Slice none none (some (.UnaryOp .USub (.Constant (.int 1) kk p1) p2)) p3) pos) (tRevL K te) := by
  subst k
  exact pe_revL he
def tTr (K : PySem.W.Frag) (ta : TE) : TT := fun σ H Q => ta σ H fun x H' => ∃ k, TruV K x H' k ∧ Q k H'
theorem k_truth (k : X.K = K) (h : PE X e ta) (he : ∀ whole, isTrue e X.env whole = (do let v ← whole; standAt e.pos; holding [v] (truthy v))) : PT X e (tTr K ta) := by
  subst k
  exact pt_truth h he
theorem k_enum {p tpos : Pos} {elts : List Expr} {kk : Nat} (k : X.K = K) (hg : Gl X "enumerate") (hm : X.mg "enumerate" = none) (ha : PA X [e] t) (hs : starEach [e] X.env = [(false, eval e X.env)] := by rfl) :
    PI X (.Tuple elts kk tpos) (.Call (.Name "enumerate" p) [e] [] pos) (iEnum K t) := by
  subst k
  exact pi_enum hg hm ha hs
theorem k_zip {p tpos : Pos} {elts : List Expr} {kk : Nat} {e2 : Expr} (k : X.K = K) (hg : Gl X "zip") (hm : X.mg "zip" = none) (ha : PA X [e, e2] t) (hs : starEach [e, e2] X.env = (false, eval e X.env) :: starEach [e2] X.env := by rfl)
    (hpl : (backTo pos (starEach [e2] X.env)).any (·.1) = false := by rfl) : PI X (.Tuple elts kk tpos) (.Call (.Name "zip" p) [e, e2] [] pos) (iZip K t) := by
  subst k
  exact pi_zip hg hm ha hs hpl
end
section
variable {K : PySem.W.Frag} {σ : L2.St} {H H' : Hp} {te : TE} {D : Ends} {tz : TS} {g : TG} {xs : List V} {v : V}
open Evl
theorem q_asgG (h : EvL te σ H xs) (k : ∀ p H1, H p = none → Ex H H1 → H1 p = some (.lst xs) → g (.ref p) σ H1 (tz D)) : tSeq (tAsg te g) tz D σ H := h H (Ex.refl H) _ k
theorem q_forE {a : Addr} {ys : List V} {ta : TA} {tu : TS} {j1 j2 : Nat} (h : EvA ta σ H [.ref a]) (hx : SqL K H a ys) (Pv : Nat → L2.St → Hp → Prop) (h0 : ∀ H1, Ex H H1 → Pv 0 σ H1) (hl : ∀ i σ' H', Pv i σ' H' → SqL K H' a ys)
    (st : ∀ i σ' H' T o, Pv i σ' H' → H' T = none → Pv i σ' (upd H' T o))
    (hs : ∀ (i : Nat) x σ' H', ys[i]? = some x → Pv i σ' H' → tu { D with nx := Pv (i + 1), ct := Pv (i + 1), bk := tz D } ((σ'.set j1 (some (.int (i : Int)))).set j2 (some x)) H') (hd : ∀ σ' H', Pv ys.length σ' H' → tz D σ' H') :
    tSeq (tFor (iEnum K ta) (gTup K 2 (gCons (gName j1) (gCons (gName j2) gNil))) tu) tz D σ H := by
  refine h H (Ex.refl H) _ fun H1 e => ⟨a, ys, rfl, ex_l e hx, ?_⟩
  refine ⟨fun i m σ H => m = ys.length - i ∧ i ≤ ys.length ∧ Pv i σ H, ⟨ys.length, by simp, Nat.zero_le _, h0 H1 e⟩, ?_⟩
  rintro i m σ' H' ⟨rfl, hi, p⟩
  have hq := hl i σ' H' p
  by_cases hlt : i < ys.length
  · have gy : ys[i]? = some ys[i] := List.getElem?_eq_getElem hlt
    refine .inr ⟨⟨ys, _, hq, gy⟩, Pv (i + 1), fun σ2 H2 p2 => ⟨ys.length - (i + 1), by omega, rfl, hlt, p2⟩, ?_⟩
    rintro z H2 ⟨T, x, rfl, hT, rfl, fx⟩
    have ex := Option.some.inj ((fx _ hq).symm.trans gy)
    subst ex
    exact ⟨T, _, rfl, .inl (.inl upd_same), rfl, _, _, rfl, _, _, rfl, rfl, hs i _ σ' _ gy (st _ _ _ _ _ p hT)⟩
  · have e1 : i = ys.length := by omega
    subst e1
    exact .inl ⟨⟨ys, hq, Nat.le_refl _⟩, hd _ _ p⟩
theorem q_asgV (h : Ev te σ H v) (k : ∀ H1, Ex H H1 → g v σ H1 (tz D)) : tSeq (tAsg te g) tz D σ H := h H (Ex.refl H) _ k
end
end Lf
end
section
set_option Elab.async false
set_option linter.all false
set_option maxRecDepth 100000
set_option maxHeartbeats 4000000
/-! Lw: the bag of draws, and what a draw leaves. -/
namespace Lf
open PySem PySem.Spec PyProof.Rows L2
open Evl
/-- the bag at b: what is left of a cell, the stirred number, how many cells were taken, the cells -/
def Bag (H : Hp) (b : Addr × Addr) : Prop := ∃ (x y z : Int) (ns : List Int), H b.1 = some (.lst [.int x, .int y, .int z, .ref b.2]) ∧ H b.2 = some (.lst (ns.map V.int)) ∧ 0 ≤ x ∧ (0 ≤ y ∧ y < 2147483647) ∧ 0 ≤ z ∧ ∀ n ∈ ns, 0 ≤ n
def spTake : Sp := fun vs H Q _ => ∃ (b : Addr × Addr) (many : Int), vs = [.ref b.1, .int many] ∧ Bag H b ∧ (0 < many ∧ many < 1073741824) ∧ ∀ v H', 0 ≤ v → v < many → Bag H' b → (∀ a, a ≠ b.1 → H' a = H a) → Q (.int v) H'
/-- all but the bag -/
def mask (b : Addr) (H : Hp) : Hp := fun a => if a = b then none else H a
theorem mask_at {b a : Addr} {H : Hp} (h : a ≠ b) : mask b H a = H a := if_neg h
theorem mask_self {b : Addr} {H : Hp} : mask b H b = none := if_pos rfl
theorem mask_le (b : Addr) (H : Hp) : Ex (mask b H) H := fun a o h => by
  by_cases e : a = b
  · subst e
    rw [mask_self] at h
    cases h
  · rw [mask_at e] at h
    exact h
theorem mask_ex {b : Addr} {H H' : Hp} (e : Ex H H') : Ex (mask b H) (mask b H') := fun a o h => by
  by_cases q : a = b
  · subst q
    rw [mask_self] at h
    cases h
  · rw [mask_at q] at h
    rw [mask_at q]
    exact e _ _ h
theorem mask_same {b : Addr} {H H' : Hp} (e : ∀ a, a ≠ b → H' a = H a) : Ex (mask b H) (mask b H') := fun a o h => by
  by_cases q : a = b
  · subst q
    rw [mask_self] at h
    cases h
  · rw [mask_at q] at h
    rw [mask_at q, e a q]
    exact h
theorem Bag.ex {b : Addr × Addr} {H H' : Hp} (h : Bag H b) (e : Ex H H') : Bag H' b := by
  obtain ⟨x, y, z, ns, h1, h2, h3⟩ := h
  exact ⟨x, y, z, ns, e _ _ h1, e _ _ h2, h3⟩
theorem Bag.ne {b : Addr × Addr} {p : Addr} {H : Hp} (h : Bag H b) (hp : H p = none) : p ≠ b.1 := by
  obtain ⟨x, y, z, ns, h1, _⟩ := h
  rintro rfl
  rw [h1] at hp
  cases hp
theorem Bag.ne2 {b : Addr × Addr} {p : Addr} {H : Hp} (h : Bag H b) (hp : H p = none) : p ≠ b.2 := by
  obtain ⟨x, y, z, ns, _, h1, _⟩ := h
  rintro rfl
  rw [h1] at hp
  cases hp
/-- what a stretch with draws leaves: the bag is one still, all else is kept -/
def Step (b : Addr × Addr) (H H' : Hp) : Prop := Bag H' b ∧ Ex (mask b.1 H) (mask b.1 H')
theorem Step.refl {b : Addr × Addr} {H : Hp} (h : Bag H b) : Step b H H := ⟨h, Ex.refl _⟩
theorem Step.trans {b : Addr × Addr} {H H1 H2 : Hp} (h : Step b H H1) (h' : Step b H1 H2) : Step b H H2 := ⟨h'.1, h.2.trans h'.2⟩
theorem Step.pure {b : Addr × Addr} {H H' : Hp} (h : Bag H b) (e : Ex H H') : Step b H H' := ⟨h.ex e, mask_ex e⟩
theorem Step.draw {b : Addr × Addr} {H H' : Hp} (h : Bag H' b) (e : ∀ a, a ≠ b.1 → H' a = H a) : Step b H H' := ⟨h, mask_same e⟩
theorem Step.at {b : Addr × Addr} {a : Addr} {H H' : Hp} {o : HO} (h : Step b H H') (hn : a ≠ b.1) (ha : H a = some o) : H' a = some o := by
  have := h.2 a o (by rw [mask_at hn]; exact ha)
  rw [mask_at hn] at this
  exact this
theorem Step.free {b : Addr × Addr} {p : Addr} {H H' : Hp} (h : Step b H H') (hp : H' p = none) : H p = none := by
  have hn := h.1.ne hp
  cases q : H p with
  | none => rfl
  | some o =>
    rw [h.at hn q] at hp
    cases hp
/-- a list of one's own is changed -/
theorem Step.put {b : Addr × Addr} {p : Addr} {H H' : Hp} {o : HO} (h : Step b H H') (hb : Bag H b) (hp : H p = none) : Step b H (upd H' p o) := by
  have hn := hb.ne hp
  have hn2 := hb.ne2 hp
  refine ⟨?_, fun a u ha => ?_⟩
  · obtain ⟨x, y, z, ns, h1, h2, h3⟩ := h.1
    refine ⟨x, y, z, ns, ?_, ?_, h3⟩
    · rw [upd_ne hn.symm]
      exact h1
    · rw [upd_ne hn2.symm]
      exact h2
  · have hap : a ≠ p := by
      rintro rfl
      rw [mask_at hn, hp] at ha
      cases ha
    by_cases q : a = b.1
    · subst q
      rw [mask_self] at ha
      cases ha
    · rw [mask_at q, upd_ne hap]
      have := h.2 a u ha
      rw [mask_at q] at this
      exact this
theorem s_retLst4 {te : TE} {σ : L2.St} {H : Hp} {xs : List V} {x y z : V} {D : Ends} (h : EvL te σ H xs) (k : ∀ c H1, H c = none → Ex H H1 → H1 c = some (.lst xs) → ∀ p, H1 p = none → D.rt (.ref p) (upd H1 p (.lst [x, y, z, .ref c]))) :
    tRet (tLst (tCons (tC x) (tCons (tC y) (tCons (tC z) (tCons te tNil))))) D σ H := h H (Ex.refl H) _ fun c H1 c0 e hc => ⟨(by show 4 ≤ sizeLine; decide), fun p hp => k c H1 c0 e hc p hp⟩
/-! ### tests with some answer -/
def TAny (R : Hp → Hp → Prop) (tt : TT) (σ : L2.St) (H : Hp) : Prop := ∀ Q : Bool → Hp → Prop, (∀ c H2, R H H2 → Q c H2) → tt σ H Q
section
variable {b : Addr × Addr} {σ : L2.St} {H : Hp} {t u : TT} {D : Ends} {ta tb : TS}
theorem tany_ev {c : Bool} (hb : Bag H b) (h : EvT t σ H c) : TAny (Step b) t σ H := fun Q q => h H (Ex.refl H) Q fun H2 e => q c H2 (.pure hb e)
theorem tany_or (h1 : TAny (Step b) t σ H) (h2 : ∀ H2, Step b H H2 → TAny (Step b) u σ H2) : TAny (Step b) (tOr t u) σ H := fun Q q => h1 _ fun c H2 s => by
  cases c with
  | true => exact iteT (q true H2 s)
  | false => exact iteF (h2 H2 s Q fun c H3 s3 => q c H3 (s.trans s3))
theorem tany_and (h1 : TAny (Step b) t σ H) (h2 : ∀ H2, Step b H H2 → TAny (Step b) u σ H2) : TAny (Step b) (tAnd t u) σ H := fun Q q => h1 _ fun c H2 s => by
  cases c with
  | true => exact iteT (h2 H2 s Q fun c H3 s3 => q c H3 (s.trans s3))
  | false => exact iteF (q false H2 s)
theorem s_any (h : TAny (Step b) t σ H) (k : ∀ H2, Step b H H2 → ta D σ H2 ∧ tb D σ H2) : tIfS t ta tb D σ H := h _ fun c H2 s => by
  cases c with
  | true => exact (k H2 s).1
  | false => exact (k H2 s).2
end
end Lf
end
section
set_option Elab.async false
set_option linter.all false
set_option maxRecDepth 100000
set_option maxHeartbeats 4000000
/-! Lt: draws of any size, and what is evaluated amid draws, up to a word of the value. -/
namespace Lf
open PySem PySem.Spec PyProof.Rows L2
open Evl
theorem divW {i j : Int} (h0 : 0 < j) (h : j ≤ 1000000000000000000000000000000) : CDivW i j := wide_div (b := 100) h0 (by
  have e : (2 : Nat) ^ 100 = 1267650600228229401496703205376 := by decide
  rw [e]
  omega) (by decide) (by decide)
def spTk : Sp := fun vs H Q _ => ∃ (b : Addr × Addr) (many : Int), vs = [.ref b.1, .int many] ∧ Bag H b ∧ (0 < many ∧ many ≤ 1000000000000000000000000000000) ∧ ∀ v H', 0 ≤ v → v < many → Bag H' b → (∀ a, a ≠ b.1 → H' a = H a) → Q (.int v) H'
def spBag (K : PySem.W.Frag) : Sp := fun vs H Q _ => ∃ (a : Addr) (ns : List Int), vs = [.ref a] ∧ SqL K H a (ns.map V.int) ∧ ns.length ≤ 63 ∧ ∀ (b : Addr × Addr) (H' : Hp), Ex H H' → H b.1 = none → Bag H' b → Q (.ref b.1) H'
def spLaw (K : PySem.W.Frag) : Sp := fun vs H Q _ => ∃ (a : Addr) (ns : List Int), vs = [.ref a] ∧ SqL K H a (ns.map V.int) ∧ ns.length ≤ 63 ∧ ∀ H', Q (.bl true) H'
/-- e gives an int of which p, with draws -/
def Dr (b : Addr × Addr) (te : TE) (σ : L2.St) (H : Hp) (P : V → Prop) : Prop := ∀ H1, Step b H H1 → ∀ Q : VK, (∀ v H2, Step b H1 H2 → P v → Q v H2) → te σ H1 Q
def DrI (b : Addr × Addr) (te : TE) (σ : L2.St) (H : Hp) (p : Int → Prop) : Prop := ∀ H1, Step b H H1 → ∀ Q : VK, (∀ (i : Int) H2, Step b H1 H2 → p i → Q (.int i) H2) → te σ H1 Q
def DrA (b : Addr × Addr) (ta : TA) (σ : L2.St) (H : Hp) (P : List V → Prop) : Prop := ∀ H1, Step b H H1 → ∀ Q : List V → Hp → Prop, (∀ vs H2, Step b H1 H2 → P vs → Q vs H2) → ta σ H1 Q
section
variable {K : PySem.W.Frag} {b : Addr × Addr} {σ : L2.St} {H H' : Hp} {ta tb te tx : TE} {P P' : V → Prop} {p q r : Int → Prop}
theorem DrI.mono (s : Step b H H') (h : DrI b te σ H p) : DrI b te σ H' p := fun H1 s1 Q q => h H1 (s.trans s1) Q q
theorem Dr.mono (s : Step b H H') (h : Dr b te σ H P) : Dr b te σ H' P := fun H1 s1 Q q => h H1 (s.trans s1) Q q
theorem DrI.imp (h : DrI b te σ H p) (k : ∀ i, p i → q i) : DrI b te σ H q := fun H1 s1 Q w => h H1 s1 Q fun i H2 s2 e => w i H2 s2 (k i e)
theorem dri_of (h : Dr b te σ H fun v => ∃ i, v = .int i ∧ p i) : DrI b te σ H p := fun H1 s Q k => h H1 s Q fun v H2 s2 ⟨i, e, pi⟩ => by
  subst e
  exact k i H2 s2 pi
theorem DrI.dr (h : DrI b te σ H p) : Dr b te σ H fun v => ∃ i, v = .int i ∧ p i := fun H1 s Q k => h H1 s Q fun i H2 s2 pi => k _ H2 s2 ⟨i, rfl, pi⟩
theorem dri_c {i : Int} (h : p i) : DrI b (tC (.int i)) σ H p := fun H1 s Q k => k i H1 (.refl s.1) h
theorem dri_var {i : Int} {n : Nat} (hn : σ[n]? = some (some (.int i))) (h : p i) : DrI b (tVar n) σ H p := fun H1 s Q k => ⟨_, hn, k i H1 (.refl s.1) h⟩
theorem dri_take {E : XK} {n : Nat} {tm : TE} (hn : σ[n]? = some (some (.ref b.1))) (hm : DrI b tm σ H fun m => (0 < m ∧ m ≤ 1000000000000000000000000000000) ∧ ∀ v, 0 ≤ v → v < m → p v) : DrI b (tCl spTk E (tCons (tVar n) (tCons tm tNil))) σ H p := fun H1 s Q k =>
  ⟨_, hn, hm H1 s _ fun m H2 s2 ⟨⟨h0, h1⟩, hp⟩ => ⟨b, m, rfl, s2.1, ⟨h0, h1⟩, fun v H3 v0 v1 b3 d3 => k v H3 (s2.trans (.draw b3 d3)) (hp v v0 v1)⟩⟩
theorem dri_tk {E : XK} {n : Nat} {m : Int} (hn : σ[n]? = some (some (.ref b.1))) (h0 : 0 < m) (h1 : m ≤ 1000000000000000000000000000000) : DrI b (tCl spTk E (tCons (tVar n) (tCons (tC (.int m)) tNil))) σ H fun x => 0 ≤ x ∧ x < m := dri_take hn (dri_c ⟨⟨h0, h1⟩, fun _ v0 v1 => ⟨v0, v1⟩⟩)
theorem dri_tkv {E : XK} {n j : Nat} {m : Int} (hn : σ[n]? = some (some (.ref b.1))) (hj : σ[j]? = some (some (.int m))) (h0 : 0 < m) (h1 : m ≤ 1000000000000000000000000000000) : DrI b (tCl spTk E (tCons (tVar n) (tCons (tVar j) tNil))) σ H fun x => 0 ≤ x ∧ x < m := dri_take hn (dri_var hj ⟨⟨h0, h1⟩, fun _ v0 v1 => ⟨v0, v1⟩⟩)
theorem dri_I0 {g : Int → Int → Int} (h1 : DrI b ta σ H p) (h2 : DrI b tb σ H q) (h : ∀ i j, p i → q j → r (g i j)) : DrI b (tOp (rI0 fun i j => .int (g i j)) ta tb) σ H r := fun H1 s Q k =>
  h1 H1 s _ fun i H2 s2 pi => h2 H2 (s.trans s2) _ fun j H3 s3 qj => ⟨i, j, rfl, rfl, k _ H3 (s2.trans s3) (h i j pi qj)⟩
theorem dri_I {C : Int → Int → Prop} {g : Int → Int → Int} (h1 : DrI b ta σ H p) (h2 : DrI b tb σ H q) (h : ∀ i j, p i → q j → C i j ∧ r (g i j)) : DrI b (tOp (rI C fun i j => .int (g i j)) ta tb) σ H r := fun H1 s Q k =>
  h1 H1 s _ fun i H2 s2 pi => h2 H2 (s.trans s2) _ fun j H3 s3 qj => ⟨i, j, rfl, rfl, (h i j pi qj).1, k _ H3 (s2.trans s3) (h i j pi qj).2⟩
theorem dri_neg (h1 : DrI b ta σ H p) (h : ∀ i, p i → r (-i)) : DrI b (tUn (rU fun i => .int (-i)) ta) σ H r := fun H1 s Q k => h1 H1 s _ fun i H2 s2 pi => ⟨i, rfl, k _ H2 s2 (h i pi)⟩
/-- items of a display, each of which P -/
theorem dra_nil {n : Nat} (h : n = 0) : DrA b tNil σ H fun vs => vs.length = n ∧ ∀ v ∈ vs, P v := fun H1 s Q k => k [] H1 (.refl s.1) ⟨h ▸ rfl, fun v hv => by simp at hv⟩
theorem dra_cons {n : Nat} {ta : TA} (h : Dr b te σ H P) (ht : DrA b ta σ H fun vs => vs.length = n ∧ ∀ v ∈ vs, P v) : DrA b (tCons te ta) σ H fun vs => vs.length = n + 1 ∧ ∀ v ∈ vs, P v := fun H1 s Q k =>
  h H1 s _ fun v H2 s2 pv => ht H2 (s.trans s2) _ fun vs H3 s3 ⟨hl, hp⟩ => k (v :: vs) H3 (s2.trans s3) ⟨by rw [List.length_cons, hl], fun u hu => by
    rcases List.mem_cons.mp hu with rfl | hu
    · exact pv
    · exact hp u hu⟩
theorem atI_in {xs : List V} {i : Int} (h0 : 0 ≤ i) (h1 : i < xs.length) : ∃ v, atI xs i = some v ∧ v ∈ xs := by
  obtain ⟨n, rfl⟩ := Int.eq_ofNat_of_zero_le h0
  have hn : n < xs.length := by omega
  exact ⟨xs[n], atI_nat (by rw [List.getElem?_eq_getElem hn]), List.getElem_mem hn⟩
/-- [a, b, ..][i] -/
theorem dr_pick {n : Nat} {ta : TA} (h : DrA b ta σ H fun vs => vs.length = n ∧ ∀ v ∈ vs, P v) (hi : DrI b tb σ H fun i => 0 ≤ i ∧ i < n) (hn : n ≤ 1000) : Dr b (tOp (rIxL K) (tLst ta) tb) σ H P := fun H1 s Q k =>
  h H1 s _ fun vs H2 s2 ⟨hl, hp⟩ => ⟨Nat.le_trans (by rw [hl]; exact hn) (by decide : (1000 : Nat) ≤ sizeLine), fun l hl0 => hi _ ((s.trans s2).trans (.pure s2.1 (Ex.new hl0))) _ fun i H3 s3 ⟨i0, i1⟩ => by
    have nl : l ≠ b.1 := s2.1.ne hl0
    have hl3 : H3 l = some (.lst vs) := s3.at nl upd_same
    obtain ⟨v, e, hv⟩ := atI_in (xs := vs) i0 (by rw [hl]; exact i1)
    exact ⟨l, vs, i, v, rfl, rfl, sq_of hl3, e, k v H3 ((s2.trans (.pure s2.1 (Ex.new hl0))).trans s3) (hp v hv)⟩⟩
theorem dri_pick {n : Nat} {ta : TA} (h : DrA b ta σ H fun vs => vs.length = n ∧ ∀ v ∈ vs, ∃ i, v = .int i ∧ p i) (hi : DrI b tb σ H fun i => 0 ≤ i ∧ i < n) (hn : n ≤ 1000) : DrI b (tOp (rIxL K) (tLst ta) tb) σ H p := dri_of (dr_pick h hi hn)
theorem ev_dr {v : V} (h : Ev te σ H v) (hb : Bag H b) (hp : P v) (hs : ∀ H1, Step b H H1 → Ev te σ H1 v) : Dr b te σ H P := fun H1 s Q k => hs H1 s H1 (Ex.refl _) Q fun H2 e => k v H2 (.pure s.1 e) hp
variable {D : Ends} {tz : TS} {g : TG}
theorem q_dri (hb : Bag H b) (h : DrI b te σ H p) (k : ∀ i H1, Step b H H1 → p i → g (.int i) σ H1 (tz D)) : tSeq (tAsg te g) tz D σ H := h H (.refl hb) _ k
theorem q_dr (hb : Bag H b) (h : Dr b te σ H P) (k : ∀ v H1, Step b H H1 → P v → g v σ H1 (tz D)) : tSeq (tAsg te g) tz D σ H := h H (.refl hb) _ k
end
end Lf
end
section
set_option Elab.async false
set_option linter.all false
set_option maxRecDepth 100000
set_option maxHeartbeats 4000000
/-! Wm: the mathematics of webs, and their data. -/
namespace Wm
open PySem PySem.Spec PyProof.Rows L2
open Evl
abbrev PS := List (Nat × Nat)
def dP (p : Nat × Nat) : PyData := .tuple [.int p.1, .int p.2]
def dPs (ps : PS) : PyData := .list (ps.map dP)
def dN (ns : List Nat) : PyData := .list (ns.map fun n : Nat => .int (n : Int))
def dNs (rows : List (List Nat)) : PyData := .list (rows.map dN)
def vN (ns : List Nat) : List V := ns.map fun n : Nat => V.int (n : Int)
def lexP (p q : Nat × Nat) : Bool := HT.lexLt [(p.1 : Int), p.2] [(q.1 : Int), q.2]
def lt2 (p q : Nat × Nat) : Prop := p.1 < q.1 ∨ (p.1 = q.1 ∧ p.2 < q.2)
def risesB (ps : PS) : Bool := ((List.range (ps.length - 1)).map fun i => lexP (ps.getD i (0, 0)) (ps.getD (i + 1) (0, 0))).all id
/-- pairs of so many places, the lesser first, rising -/
structure Good (many : Nat) (ps : PS) : Prop where
  m2 : 2 ≤ many
  m10 : many ≤ 10
  lt : ∀ p ∈ ps, p.1 < p.2 ∧ p.2 < many
  pw : ps.Pairwise lt2
  few : ps.length ≤ 1000
theorem lexP_of {p q : Nat × Nat} (h : lt2 p q) : lexP p q = true := by
  unfold lexP
  show (if (p.1 : Int) = q.1 then (if (p.2 : Int) = q.2 then HT.lexLt [] [] else decide ((p.2 : Int) < q.2)) else decide ((p.1 : Int) < q.1)) = true
  rcases h with h | ⟨h1, h2⟩
  · rw [if_neg (by omega), decide_eq_true (by omega)]
  · rw [if_pos (by omega), if_neg (by omega), decide_eq_true (by omega)]
theorem Good.rise {many : Nat} {ps : PS} (g : Good many ps) : risesB ps = true := by
  unfold risesB
  rw [List.all_map, List.all_eq_true]
  intro i hi
  have hi := List.mem_range.mp hi
  have h1 : i < ps.length := by omega
  have h2 : i + 1 < ps.length := by omega
  show lexP (ps.getD i (0, 0)) (ps.getD (i + 1) (0, 0)) = true
  rw [List.getD_eq_getElem?_getD, List.getD_eq_getElem?_getD, List.getElem?_eq_getElem h1, List.getElem?_eq_getElem h2]
  exact lexP_of (List.pairwise_iff_getElem.mp g.pw i (i + 1) h1 h2 (Nat.lt_succ_self i))
def rowOf (ps : PS) (i : Nat) : List Nat := ps.filterMap fun p => if p.1 = i then some p.2 else if p.2 = i then some p.1 else none
def nearOf (many : Nat) (ps : PS) : List (List Nat) := (List.range many).map (rowOf ps)
def adj (ps : PS) (i j : Nat) : Bool := decide (j ∈ rowOf ps i)
def touch (ps : PS) (i j : Nat) : Bool := (rowOf ps i).any fun x => decide (x ∈ rowOf ps j)
def clash (ps : PS) (i j : Nat) : Bool := !decide (i = j) && (adj ps i j || touch ps i j)
/-! ### the least number that is not barred -/
theorem len_ge : ∀ (n : Nat) (b : List Nat), (∀ m, m < n → m ∈ b) → n ≤ b.length
  | 0, _, _ => Nat.zero_le _
  | n + 1, b, h => by
    have h1 := len_ge n (b.erase n) fun m hm => (List.mem_erase_of_ne (by omega)).mpr (h m (by omega))
    rw [List.length_erase_of_mem (h n (by omega))] at h1
    have := List.length_pos_of_mem (h n (by omega))
    omega
def leastFrom (b : List Nat) : Nat → Nat → Nat
  | 0, n => n
  | f + 1, n => if n ∈ b then leastFrom b f (n + 1) else n
def least (b : List Nat) : Nat := leastFrom b (b.length + 1) 0
theorem leastFrom_spec (b : List Nat) : ∀ (f n : Nat), b.length < f + n → (∀ m, m < n → m ∈ b) → leastFrom b f n ∉ b ∧ ∀ m, m < leastFrom b f n → m ∈ b
  | 0, n, hf, h => by have := len_ge n b h; omega
  | f + 1, n, hf, h => by
    unfold leastFrom
    by_cases e : n ∈ b
    · rw [if_pos e]
      exact leastFrom_spec b f (n + 1) (by omega) fun m hm => by
        by_cases q : m = n
        · exact q ▸ e
        · exact h m (by omega)
    · rw [if_neg e]
      exact ⟨e, h⟩
theorem least_not (b : List Nat) : least b ∉ b := (leastFrom_spec b (b.length + 1) 0 (by omega) (by omega)).1
theorem least_in (b : List Nat) : ∀ m, m < least b → m ∈ b := (leastFrom_spec b (b.length + 1) 0 (by omega) (by omega)).2
theorem least_le (b : List Nat) : least b ≤ b.length := len_ge _ b (least_in b)
theorem least_eq {b : List Nat} {n : Nat} (h1 : n ∉ b) (h2 : ∀ m, m < n → m ∈ b) : least b = n := by
  rcases Nat.lt_trichotomy n (least b) with h | h | h
  · exact absurd (least_in b n h) h1
  · exact h.symm
  · exact absurd (h2 _ h) (least_not b)
/-! ### slots -/
def slotsUpto (ps : PS) : Nat → List Nat
  | 0 => []
  | n + 1 => slotsUpto ps n ++ [least (((List.range n).filter fun l => clash ps l n).map fun l => (slotsUpto ps n).getD l 0)]
theorem slots_len (ps : PS) : ∀ n, (slotsUpto ps n).length = n
  | 0 => rfl
  | n + 1 => by
    show (slotsUpto ps n ++ _).length = n + 1
    rw [List.length_append, slots_len ps n]
    rfl
/-! ### values -/
theorem inV_nat (n : Nat) (b : List Nat) : inV (.int (n : Int)) (vN b) = decide (n ∈ b) := by
  unfold vN
  induction b with
  | nil => rfl
  | cons x r ih =>
    show (eqV (V.int (x : Int)) (.int (n : Int)) || inV (.int (n : Int)) (r.map fun n : Nat => V.int (n : Int))) = _
    rw [ih]
    by_cases e : n = x
    · subst e
      simp [eqV]
    · have e2 : ¬ ((x : Int) = (n : Int)) := fun q => e (by omega)
      simp [eqV, e, e2, List.mem_cons]
theorem vN_flat (b : List Nat) : (vN b).all flatV = true := by
  unfold vN
  induction b with
  | nil => rfl
  | cons x r ih => rw [List.map_cons, List.all_cons, ih]; rfl
theorem vN_len (b : List Nat) : (vN b).length = b.length := List.length_map ..
theorem vN_get {b : List Nat} {i n : Nat} (h : b[i]? = some n) : (vN b)[i]? = some (.int (n : Int)) := by
  unfold vN
  rw [List.getElem?_map, h]
  rfl
theorem vN_inv {K : PySem.W.Frag} {H : Hp} {ns : List Nat} {vs : List V} (h : DpAll K H vs (ns.map fun n : Nat => PyData.int (n : Int))) : vs = vN ns := by
  have e : (ns.map fun n : Nat => PyData.int (n : Int)) = (ns.map fun n : Nat => (n : Int)).map PyData.int := by rw [List.map_map]; rfl
  rw [e] at h
  rw [Lf.Dps.ints_inv h, List.map_map]
  rfl
theorem dN_list {K : PySem.W.Frag} {H : Hp} {ns : List Nat} {v : V} (h : Dp K H v (dN ns)) : ∃ a, v = .ref a ∧ SqL K H a (vN ns) := by
  obtain ⟨a, xs, e, h1, h2⟩ := Lf.dp_list h
  rw [vN_inv h2] at h1
  exact ⟨a, e, h1⟩
theorem vN_dps {K : PySem.W.Frag} {H : Hp} : ∀ ns : List Nat, DpAll K H (vN ns) (ns.map fun n : Nat => PyData.int (n : Int))
  | [] => .nil
  | n :: ns => .cons (.int _) (vN_dps ns)
theorem dP_tup {K : PySem.W.Frag} {H : Hp} {p : Nat × Nat} {v : V} (h : Dp K H v (dP p)) : ∃ a, v = .ref a ∧ SqT K H a [.int p.1, .int p.2] := by
  obtain ⟨a, xs, e, h1, h2⟩ := Lf.dp_tup h
  have e2 := Lf.Dps.ints_inv (ns := [(p.1 : Int), p.2]) h2
  rw [e2] at h1
  exact ⟨a, e, h1⟩
theorem dPs_list {K : PySem.W.Frag} {H : Hp} {ps : PS} {v : V} (h : Dp K H v (dPs ps)) : ∃ a xs, v = .ref a ∧ SqL K H a xs ∧ xs.length = ps.length ∧ ∀ (i : Nat) (x : V), xs[i]? = some x → ∃ p t, ps[i]? = some p ∧ x = .ref t ∧ SqT K H t [.int p.1, .int p.2] := by
  obtain ⟨a, xs, e, h1, h2⟩ := Lf.dp_list h
  refine ⟨a, xs, e, h1, by rw [Lf.Dps.len h2, List.length_map], fun i x hx => ?_⟩
  obtain ⟨d, hd, hp⟩ := Lf.Dps.get h2 hx
  rw [List.getElem?_map] at hd
  obtain ⟨p, e1, rfl⟩ := Option.map_eq_some_iff.mp hd
  obtain ⟨t, e2, h3⟩ := dP_tup hp
  exact ⟨p, t, e1, e2, h3⟩
theorem dNs_list {K : PySem.W.Frag} {H : Hp} {rows : List (List Nat)} {v : V} (h : Dp K H v (dNs rows)) : ∃ a xs, v = .ref a ∧ SqL K H a xs ∧ xs.length = rows.length ∧ ∀ (i : Nat) (row : List Nat), rows[i]? = some row → ∃ t, xs[i]? = some (.ref t) ∧ SqL K H t (vN row) := by
  obtain ⟨a, xs, e, h1, h2⟩ := Lf.dp_list h
  refine ⟨a, xs, e, h1, by rw [Lf.Dps.len h2, List.length_map], fun i row hr => ?_⟩
  obtain ⟨x, hx, hp⟩ := Lf.Dps.get2 h2 (i := i) (d := dN row) (by rw [List.getElem?_map, hr]; rfl)
  obtain ⟨t, e2, h3⟩ := dN_list hp
  exact ⟨t, by rw [hx, e2], h3⟩
/-- all items but the first -/
theorem cut1 (xs : List V) : cutV xs (some 1) none = xs.drop 1 := by
  unfold cutV
  have e1 : HT.sIx xs.length 0 (some 1) = min 1 xs.length := HT.sIx_nat xs.length 0 1
  rw [e1, HT.sIx_none]
  cases xs with
  | nil => rfl
  | cons x r =>
    have e2 : min 1 (x :: r).length = 1 := by
      rw [List.length_cons]
      omega
    rw [e2]
    show List.take ((x :: r).length - 1) r = r
    rw [List.length_cons, Nat.add_sub_cancel, List.take_length]
/-- a list of data by its places -/
theorem dps_of {K : PySem.W.Frag} {H : Hp} : ∀ {vs : List V} {ds : List PyData}, vs.length = ds.length → (∀ (i : Nat) v d, vs[i]? = some v → ds[i]? = some d → Dp K H v d) → DpAll K H vs ds
  | [], [], _, _ => .nil
  | [], _ :: _, h, _ => by cases h
  | _ :: _, [], h, _ => by cases h
  | v :: vs, d :: ds, h, f => .cons (f 0 v d rfl rfl) (dps_of (by simpa using h) fun i v' d' h1 h2 => f (i + 1) v' d' (by simpa using h1) (by simpa using h2))
end Wm
end
section
set_option Elab.async false
set_option linter.all false
set_option maxRecDepth 100000
set_option maxHeartbeats 4000000
namespace Wm
open PySem PySem.Spec PyProof.Rows L2 Lf
open Evl
/-! ### what may be compared and shown -/
theorem canAll : ∀ {ds : List PyData}, (∀ d ∈ ds, PyData.canLay0 d = true) → PyData.canLayAll0 ds = true
  | [], _ => rfl
  | d :: ds, h => by
    show (PyData.canLay0 d && PyData.canLayAll0 ds) = true
    rw [h d List.mem_cons_self, canAll fun e he => h e (List.mem_cons_of_mem _ he)]
    rfl
theorem depAll {n : Nat} : ∀ {ds : List PyData}, (∀ d ∈ ds, PyData.depth d ≤ n) → PyData.depthAll ds ≤ n
  | [], _ => Nat.zero_le _
  | d :: ds, h => by
    show max (PyData.depth d) (PyData.depthAll ds) ≤ n
    have h1 := h d List.mem_cons_self
    have h2 := depAll fun e he => h e (List.mem_cons_of_mem _ he)
    omega
/-- data of depth n at most -/
structure Sh (n : Nat) (d : PyData) : Prop where
  can : PyData.canLay0 d = true
  dep : PyData.depth d ≤ n
theorem Sh.mono {m n : Nat} {d : PyData} (h : Sh m d) (e : m ≤ n) : Sh n d := ⟨h.can, Nat.le_trans h.dep e⟩
theorem Sh.shaped {n : Nat} {d : PyData} (h : Sh n d) (e : n ≤ 64) : SeqAt.shaped d = true := by
  show (PyData.canLay0 d && decide (PyData.depth d ≤ 64)) = true
  rw [h.can, decide_eq_true (Nat.le_trans h.dep e)]
  rfl
theorem Sh.int (i : Int) : Sh 0 (.int i) := ⟨rfl, Nat.le_refl _⟩
theorem Sh.non : Sh 0 .none := ⟨rfl, Nat.le_refl _⟩
theorem Sh.bl (b : Bool) : Sh 0 (.bool b) := ⟨rfl, Nat.le_refl _⟩
theorem Sh.list {n : Nat} {ds : List PyData} (h : ∀ d ∈ ds, Sh n d) : Sh (n + 1) (.list ds) := ⟨canAll fun d hd => (h d hd).can, Nat.succ_le_succ (depAll fun d hd => (h d hd).dep)⟩
theorem Sh.tup {n : Nat} {ds : List PyData} (h : ∀ d ∈ ds, Sh n d) : Sh (n + 1) (.tuple ds) := ⟨canAll fun d hd => (h d hd).can, Nat.succ_le_succ (depAll fun d hd => (h d hd).dep)⟩
theorem sh_dP (p : Nat × Nat) : Sh 1 (dP p) := Sh.tup (n := 0) fun d hd => by
  rcases List.mem_cons.mp hd with rfl | hd
  · exact Sh.int _
  · rcases List.mem_cons.mp hd with rfl | hd
    · exact Sh.int _
    · cases hd
theorem sh_dPs (ps : PS) : Sh 2 (dPs ps) := Sh.list fun d hd => by
  obtain ⟨p, _, rfl⟩ := List.mem_map.mp hd
  exact sh_dP p
theorem sh_dN (ns : List Nat) : Sh 1 (dN ns) := Sh.list fun d hd => by
  obtain ⟨p, _, rfl⟩ := List.mem_map.mp hd
  exact Sh.int _
theorem sh_dNs (rows : List (List Nat)) : Sh 2 (dNs rows) := Sh.list fun d hd => by
  obtain ⟨p, _, rfl⟩ := List.mem_map.mp hd
  exact sh_dN p
theorem non_dPs (ps : PS) : ((ps.map dP).any fun z => PyData.eqv z .none) = false := by
  rw [List.any_eq_false]
  intro d hd
  obtain ⟨p, _, rfl⟩ := List.mem_map.mp hd
  exact fun h => Bool.noConfusion h
/-! ### a list of pairs whose tuples are told -/
def PairsIn (H : Hp) (ws : List V) (ps : PS) : Prop := ws.length = ps.length ∧ ∀ (i : Nat) (p : Nat × Nat), ps[i]? = some p → ∃ t, ws[i]? = some (.ref t) ∧ H t = some (.tup [.int p.1, .int p.2])
theorem PairsIn.ex {H H' : Hp} {ws : List V} {ps : PS} (h : PairsIn H ws ps) (e : Ex H H') : PairsIn H' ws ps := ⟨h.1, fun i p hp => let ⟨t, h1, h2⟩ := h.2 i p hp; ⟨t, h1, e _ _ h2⟩⟩
theorem PairsIn.upd {H : Hp} {ws us vs : List V} {ps : PS} {D : Addr} (h : PairsIn H ws ps) (hD : H D = some (.lst us)) : PairsIn (upd H D (.lst vs)) ws ps := ⟨h.1, fun i p hp => by
  obtain ⟨t, h1, h2⟩ := h.2 i p hp
  refine ⟨t, h1, ?_⟩
  rw [upd_ne (ne_of h2 hD (by intro z; cases z))]
  exact h2⟩
theorem PairsIn.nil (H : Hp) : PairsIn H [] [] := ⟨rfl, fun i p hp => by simp at hp⟩
theorem PairsIn.snoc {H : Hp} {ws : List V} {ps : PS} {t : Addr} {p : Nat × Nat} (h : PairsIn H ws ps) (ht : H t = some (.tup [.int p.1, .int p.2])) : PairsIn H (ws ++ [.ref t]) (ps ++ [p]) := by
  refine ⟨by rw [List.length_append, List.length_append, h.1] <;> rfl, fun i q hq => ?_⟩
  by_cases hi : i < ps.length
  · rw [List.getElem?_append_left hi] at hq
    obtain ⟨u, h1, h2⟩ := h.2 i q hq
    exact ⟨u, by rw [List.getElem?_append_left (by rw [h.1]; exact hi)]; exact h1, h2⟩
  · rw [List.getElem?_append_right (by omega)] at hq
    have e0 : i - ps.length = 0 := by
      have := (List.getElem?_eq_some_iff.mp hq).1
      simp at this
      omega
    rw [e0] at hq
    have e1 : p = q := Option.some.inj hq
    subst e1
    refine ⟨t, ?_, ht⟩
    rw [List.getElem?_append_right (by rw [h.1]; omega), h.1, e0]
    rfl
theorem PairsIn.dps {K : PySem.W.Frag} {H : Hp} {ws : List V} {ps : PS} (h : PairsIn H ws ps) : DpAll K H ws (ps.map dP) := by
  refine dps_of (by rw [h.1, List.length_map]) fun i v d h1 h2 => ?_
  rw [List.getElem?_map] at h2
  obtain ⟨p, e1, rfl⟩ := Option.map_eq_some_iff.mp h2
  obtain ⟨t, e2, h3⟩ := h.2 i p e1
  rw [h1] at e2
  cases e2
  exact .tup (.inl (.inl h3)) (.cons (.int _) (.cons (.int _) .nil))
theorem PairsIn.dp {K : PySem.W.Frag} {H : Hp} {a : Addr} {ws : List V} {ps : PS} (h : PairsIn H ws ps) (ha : SqL K H a ws) : Dp K H (.ref a) (dPs ps) := .lst ha h.dps
/-! ### rows of numbers in lists of their own -/
def RowsIn (H : Hp) (ws : List V) (rows : List (List Nat)) : Prop := ws.length = rows.length ∧ (∀ (i : Nat) (row : List Nat), rows[i]? = some row → ∃ t, ws[i]? = some (.ref t) ∧ H t = some (.lst (vN row))) ∧ ∀ (i j : Nat) (t : Addr), ws[i]? = some (.ref t) → ws[j]? = some (.ref t) → i = j
theorem RowsIn.dps {K : PySem.W.Frag} {H : Hp} {ws : List V} {rows : List (List Nat)} (h : RowsIn H ws rows) : DpAll K H ws (rows.map dN) := by
  refine dps_of (by rw [h.1, List.length_map]) fun i v d h1 h2 => ?_
  rw [List.getElem?_map] at h2
  obtain ⟨row, e1, rfl⟩ := Option.map_eq_some_iff.mp h2
  obtain ⟨t, e2, h3⟩ := h.2.1 i row e1
  rw [h1] at e2
  cases e2
  exact .lst (.inl (.inl h3)) (vN_dps row)
theorem RowsIn.put {H : Hp} {ws : List V} {rows : List (List Nat)} {i n : Nat} {row : List Nat} {t : Addr} (h : RowsIn H ws rows) (hr : rows[i]? = some row) (ht : ws[i]? = some (.ref t)) : RowsIn (upd H t (.lst (vN row ++ [.int (n : Int)]))) ws (rows.set i (row ++ [n])) := by
  refine ⟨by rw [List.length_set]; exact h.1, fun j row' hj => ?_, h.2.2⟩
  by_cases e : i = j
  · subst e
    rw [List.getElem?_set_self (List.getElem?_eq_some_iff.mp hr).1] at hj
    cases hj
    refine ⟨t, ht, ?_⟩
    rw [upd_same]
    unfold vN
    rw [List.map_append]
    rfl
  · rw [List.getElem?_set_ne e] at hj
    obtain ⟨u, h1, h2⟩ := h.2.1 j row' hj
    refine ⟨u, h1, ?_⟩
    have nut : u ≠ t := fun q => e (h.2.2 i j t ht (by rw [← q]; exact h1))
    rw [upd_ne nut]
    exact h2
/-- the rows behind some pairs -/
def rowsUpto (many : Nat) (ps : PS) (k : Nat) : List (List Nat) := (List.range many).map (rowOf (ps.take k))
theorem rowOf_snoc (ps : PS) (p : Nat × Nat) (i : Nat) : rowOf (ps ++ [p]) i = rowOf ps i ++ (if p.1 = i then [p.2] else if p.2 = i then [p.1] else []) := by
  unfold rowOf
  rw [List.filterMap_append]
  congr 1
  by_cases h1 : p.1 = i
  · simp [h1]
  · by_cases h2 : p.2 = i
    · simp [h1, h2]
    · simp [h1, h2]
theorem set_range {α : Type} (n i : Nat) (f : Nat → α) (x : α) (hi : i < n) : ((List.range n).map f).set i x = (List.range n).map fun j => if i = j then x else f j := by
  refine List.ext_getElem? fun j => ?_
  by_cases e : i = j
  · subst e
    rw [List.getElem?_set_self (by simpa using hi), List.getElem?_map, List.getElem?_range hi]
    simp
  · rw [List.getElem?_set_ne e, List.getElem?_map, List.getElem?_map]
    cases h : (List.range n)[j]? with
    | none => rfl
    | some k =>
      have hk : k = j := by
        have := List.getElem?_eq_some_iff.mp h
        obtain ⟨h1, h2⟩ := this
        rw [List.getElem_range] at h2
        exact h2.symm
      subst hk
      simp [e]
theorem rows_step {many k : Nat} {ps : PS} {a b : Nat} (hk : ps[k]? = some (a, b)) (hab : a < b) (hb : b < many) :
    ((rowsUpto many ps k).set a (rowOf (ps.take k) a ++ [b])).set b (rowOf (ps.take k) b ++ [a]) = rowsUpto many ps (k + 1) := by
  unfold rowsUpto
  rw [set_range _ _ _ _ (by omega), set_range _ _ _ _ hb]
  have e : ps.take (k + 1) = ps.take k ++ [(a, b)] := by
    rw [List.take_add_one, hk]
    rfl
  rw [e]
  refine List.map_congr_left fun j _ => ?_
  rw [rowOf_snoc]
  by_cases h1 : b = j
  · subst h1
    have h2 : ¬ a = b := by omega
    simp [h2]
  · by_cases h2 : a = j
    · subst h2
      simp [h1]
    · simp [h1, h2]
theorem near_all (many : Nat) (ps : PS) : rowsUpto many ps ps.length = nearOf many ps := by
  unfold rowsUpto nearOf
  rw [List.take_length]
theorem rows_zero (many : Nat) (ps : PS) : rowsUpto many ps 0 = List.replicate many [] := by
  unfold rowsUpto
  refine List.ext_getElem? fun j => ?_
  rw [List.getElem?_map, List.getElem?_replicate]
  by_cases h : j < many
  · rw [List.getElem?_range h, if_pos h]
    rfl
  · rw [List.getElem?_eq_none (by simpa using h), if_neg h]
    rfl
end Wm
end
section
set_option Elab.async false
set_option linter.all false
set_option maxRecDepth 100000
set_option maxHeartbeats 4000000
namespace Wm
open PySem PySem.Spec PyProof.Rows L2 Lf
open Evl
/-! ### a web's object -/
def webF (m : Nat) (a1 a2 : Addr) : List (Str × V) := [(("_many" : Str), V.int (m : Int)), (("_pairs" : Str), V.ref a1), (("_near" : Str), V.ref a2)]
def WebAt (K : PySem.W.Frag) (C : Addr) (H : Hp) (p : Addr) (m : Nat) (ps : PS) : Prop := Good m ps ∧ ∃ dx a1 a2, H p = some (.ins C dx (webF m a1 a2)) ∧ Dp K H (.ref a1) (dPs ps) ∧ Dp K H (.ref a2) (dNs (nearOf m ps))
theorem WebAt.ex {K : PySem.W.Frag} {C : Addr} {H H' : Hp} {p : Addr} {m : Nat} {ps : PS} (h : WebAt K C H p m ps) (e : Ex H H') : WebAt K C H' p m ps := by
  obtain ⟨g, dx, a1, a2, h1, h2, h3⟩ := h
  exact ⟨g, dx, a1, a2, e _ _ h1, Dp.ex h2 e, Dp.ex h3 e⟩
theorem webF_put (m : Nat) (a1 a2 : Addr) : putF "_near" (.ref a2) (putF "_pairs" (.ref a1) (putF "_many" (.int (m : Int)) [])) = webF m a1 a2 := by
  have n1 : ¬ (("_many" : Str) = "_pairs") := by decide +kernel
  have n2 : ¬ (("_many" : Str) = "_near") := by decide +kernel
  have n3 : ¬ (("_pairs" : Str) = "_near") := by decide +kernel
  show putF "_near" (.ref a2) (putF "_pairs" (.ref a1) [(("_many" : Str), V.int (m : Int))]) = _
  have e1 : putF "_pairs" (.ref a1) [(("_many" : Str), V.int (m : Int))] = [(("_many" : Str), V.int (m : Int)), (("_pairs" : Str), V.ref a1)] := by
    show (if ("_many" : Str) = "_pairs" then _ else _) = _
    rw [if_neg n1]
    rfl
  rw [e1]
  show (if ("_many" : Str) = "_near" then _ else _ :: (if ("_pairs" : Str) = "_near" then _ else _ :: putF "_near" (.ref a2) [])) = _
  rw [if_neg n2, if_neg n3]
  rfl
theorem webF_many (m : Nat) (a1 a2 : Addr) : (webF m a1 a2).lookup ("_many" : Str) = some (.int (m : Int)) := by
  rw [← webF_put, lookup_putF, if_neg (by decide +kernel), lookup_putF, if_neg (by decide +kernel), lookup_putF, if_pos rfl]
theorem webF_pairs (m : Nat) (a1 a2 : Addr) : (webF m a1 a2).lookup ("_pairs" : Str) = some (.ref a1) := by
  rw [← webF_put, lookup_putF, if_neg (by decide +kernel), lookup_putF, if_pos rfl]
theorem webF_near (m : Nat) (a1 a2 : Addr) : (webF m a1 a2).lookup ("_near" : Str) = some (.ref a2) := by
  rw [← webF_put, lookup_putF, if_pos rfl]
theorem webF_no (m : Nat) (a1 a2 : Addr) {x : Str} (h1 : ¬ x = "_many") (h2 : ¬ x = "_pairs") (h3 : ¬ x = "_near") : (webF m a1 a2).lookup x = none := by
  rw [← webF_put, lookup_putF, if_neg h3, lookup_putF, if_neg h2, lookup_putF, if_neg h1]
  rfl
/-! ### data does not hang on an instance -/
theorem rd_ins {H : Hp} {x C dx a : Addr} {fs : List (Str × V)} {o u : HO} (hx : H x = some (.ins C dx fs)) (hu : ∀ C dx fs, u ≠ .ins C dx fs) (h : Rd H a u) : Rd (upd H x o) a u := by
  rcases h with h | ⟨ob, h⟩
  · refine .inl ?_
    rw [upd_ne (ne_of h hx (hu C dx fs))]
    exact h
  · refine .inr ⟨ob, ?_⟩
    rw [upd_ne (ne_of h hx (by intro z; cases z))]
    exact h
mutual
theorem dp_ins {K : PySem.W.Frag} {H : Hp} {x C dx : Addr} {fs : List (Str × V)} {o : HO} (hx : H x = some (.ins C dx fs)) : ∀ (d : PyData) (v : V), Dp K H v d → Dp K (upd H x o) v d
  | .none, _, h => by cases h; exact .non
  | .bool b, _, h => by cases h; exact .bl b
  | .int i, _, h => by cases h; exact .int i
  | .str x, _, h => by cases h; exact .str x
  | .list ds, _, h => by
    cases h with
    | lst h1 h2 => exact .lst (h1.imp (rd_ins hx (by intro _ _ _ z; cases z)) id) (dps_ins hx ds _ h2)
  | .tuple ds, _, h => by
    cases h with
    | tup h1 h2 => exact .tup (h1.imp (rd_ins hx (by intro _ _ _ z; cases z)) id) (dps_ins hx ds _ h2)
  | .dict _, _, h => by cases h
theorem dps_ins {K : PySem.W.Frag} {H : Hp} {x C dx : Addr} {fs : List (Str × V)} {o : HO} (hx : H x = some (.ins C dx fs)) : ∀ (ds : List PyData) (vs : List V), DpAll K H vs ds → DpAll K (upd H x o) vs ds
  | [], _, h => by cases h; exact .nil
  | d :: ds, _, h => by
    cases h with
    | cons h1 h2 => exact .cons (dp_ins hx d _ h1) (dps_ins hx ds _ h2)
end
theorem PairsIn.ins {H : Hp} {x C dx : Addr} {fs : List (Str × V)} {o : HO} {ws : List V} {ps : PS} (h : PairsIn H ws ps) (hx : H x = some (.ins C dx fs)) : PairsIn (L2.upd H x o) ws ps := ⟨h.1, fun i p hp => by
  obtain ⟨t, h1, h2⟩ := h.2 i p hp
  refine ⟨t, h1, ?_⟩
  rw [upd_ne (ne_of h2 hx (by intro z; cases z))]
  exact h2⟩
theorem RowsIn.ins {H : Hp} {x C dx : Addr} {fs : List (Str × V)} {o : HO} {ws : List V} {rows : List (List Nat)} (h : RowsIn H ws rows) (hx : H x = some (.ins C dx fs)) : RowsIn (L2.upd H x o) ws rows := ⟨h.1, fun i p hp => by
  obtain ⟨t, h1, h2⟩ := h.2.1 i p hp
  refine ⟨t, h1, ?_⟩
  rw [upd_ne (ne_of h2 hx (by intro z; cases z))]
  exact h2, h.2.2⟩
theorem RowsIn.ex {H H' : Hp} {ws : List V} {rows : List (List Nat)} (h : RowsIn H ws rows) (e : Ex H H') : RowsIn H' ws rows := ⟨h.1, fun i p hp => let ⟨t, h1, h2⟩ := h.2.1 i p hp; ⟨t, h1, e _ _ h2⟩, h.2.2⟩
/-- a web that was made at H0 -/
def WebNew (C : Addr) (H0 H : Hp) (x : Addr) (m : Nat) (ps : PS) : Prop := Good m ps ∧ ∃ dx a1 a2 ws1 ws2, H x = some (.ins C dx (webF m a1 a2)) ∧ H a1 = some (.lst ws1) ∧ H a2 = some (.lst ws2) ∧ PairsIn H ws1 ps ∧ RowsIn H ws2 (nearOf m ps) ∧ H0 x = none ∧ H0 a1 = none ∧ H0 a2 = none ∧ ∀ (i : Nat) (t : Addr), ws2[i]? = some (.ref t) → H0 t = none
theorem WebNew.at {K : PySem.W.Frag} {C : Addr} {H0 H : Hp} {x : Addr} {m : Nat} {ps : PS} (h : WebNew C H0 H x m ps) : WebAt K C H x m ps := by
  obtain ⟨g, dx, a1, a2, ws1, ws2, h1, h2, h3, h4, h5, _⟩ := h
  exact ⟨g, dx, a1, a2, h1, h4.dp (sq_of h2), .lst (sq_of h3) h5.dps⟩
/-! ### the slots' list holds -/
def slotsHold (m : Nat) (ps : PS) (ns : List Int) : Bool :=
  decide (ns.length = m) && (!(ns.any fun n => decide (n < 0)) && (List.range m).all fun pl => !((List.range pl).any fun l => decide (ns.getD l 0 = ns.getD pl 0) && clash ps l pl))
theorem nearOf_get {m : Nat} {ps : PS} {i : Nat} (h : i < m) : (nearOf m ps)[i]? = some (rowOf ps i) := by
  unfold nearOf
  rw [List.getElem?_map, List.getElem?_range h]
  rfl
theorem any_getD {b : List Nat} (f : Nat → Bool) : b.any f = (List.range b.length).any fun j => f (b.getD j 0) := by
  induction b with
  | nil => rfl
  | cons x r ih =>
    rw [List.length_cons, List.range_succ_eq_map, List.any_cons, List.any_cons, List.any_map, ih]
    rfl
theorem any_getI {b : List Int} {f : Int → Bool} : b.any f = (List.range b.length).any fun j => f (b.getD j 0) := by
  induction b with
  | nil => rfl
  | cons x r ih =>
    rw [List.length_cons, List.range_succ_eq_map, List.any_cons, List.any_cons, List.any_map, ih]
    rfl
theorem given_filter (b : List Nat) (f : Nat → Bool) : given b.length (fun n => f (b.getD n 0)) (fun n => V.int ((b.getD n 0 : Nat) : Int)) = vN (b.filter f) := by
  unfold given vN
  have e : b = (List.range b.length).map fun n => b.getD n 0 := by
    refine List.ext_getElem? fun i => ?_
    by_cases q : i < b.length
    · rw [List.getElem?_map, List.getElem?_range q]
      show b[i]? = some (b.getD i 0)
      rw [List.getD_eq_getElem?_getD, List.getElem?_eq_getElem q]
      rfl
    · rw [List.getElem?_eq_none (by omega), List.getElem?_eq_none (by simpa using q)]
  conv => rhs; rw [e]
  rw [List.filter_map, List.map_map]
  rfl
theorem ne_nil (ns : List Nat) : (!PyData.eqv (dN ns) (.list [])) = !ns.isEmpty := by
  cases ns with
  | nil => rfl
  | cons x r => rfl
theorem filter_any (b : List Nat) (f : Nat → Bool) : (!(b.filter f).isEmpty) = b.any f := by
  induction b with
  | nil => rfl
  | cons x r ih =>
    rw [List.filter_cons, List.any_cons]
    by_cases h : f x = true
    · rw [if_pos h, h]
      rfl
    · rw [if_neg h, ih, Bool.eq_false_iff.mpr h, Bool.false_or]
theorem vN_at {b : List Nat} {j : Nat} {x : V} (h : (vN b)[j]? = some x) : ∃ n : Nat, x = .int (n : Int) ∧ b[j]? = some n := by
  unfold vN at h
  rw [List.getElem?_map] at h
  obtain ⟨n, h1, h2⟩ := Option.map_eq_some_iff.mp h
  exact ⟨n, h2.symm, h1⟩
end Wm
end
section
set_option Elab.async false
set_option linter.all false
set_option maxRecDepth 100000
set_option maxHeartbeats 4000000
namespace Wm
open PySem PySem.Spec PyProof.Rows L2 Lf
open Evl
theorem rowOf_sorted {many : Nat} {ps : PS} (g : Good many ps) (i : Nat) : (rowOf ps i).Pairwise (· < ·) := by
  unfold rowOf
  have h : ps.Pairwise fun p q => lt2 p q ∧ p.1 < p.2 ∧ q.1 < q.2 := by
    refine List.Pairwise.imp_of_mem (fun {p q} hp hq h => ⟨h, (g.lt p hp).1, (g.lt q hq).1⟩) g.pw
  refine List.Pairwise.filterMap _ (fun p q ⟨h1, h2, h3⟩ x hx y hy => ?_) h
  have hx : (if p.1 = i then some p.2 else if p.2 = i then some p.1 else none) = some x := hx
  have hy : (if q.1 = i then some q.2 else if q.2 = i then some q.1 else none) = some y := hy
  have h1 : p.1 < q.1 ∨ (p.1 = q.1 ∧ p.2 < q.2) := h1
  split at hx
  · split at hy
    · cases hx; cases hy; omega
    · split at hy
      · cases hx; cases hy; omega
      · cases hy
  · split at hx
    · split at hy
      · cases hx; cases hy; omega
      · split at hy
        · cases hx; cases hy; omega
        · cases hy
    · cases hx
theorem rowOf_lt {many : Nat} {ps : PS} (g : Good many ps) {i n : Nat} (h : n ∈ rowOf ps i) : n < many := by
  unfold rowOf at h
  obtain ⟨p, hp, e⟩ := List.mem_filterMap.mp h
  obtain ⟨h1, h2⟩ := g.lt p hp
  split at e
  · cases e; omega
  · split at e
    · cases e; omega
    · cases e
theorem sorted_row {many : Nat} {ps : PS} (g : Good many ps) {i : Nat} {ns : List Int} (hp : ns.Perm ((rowOf ps i).map fun n : Nat => (n : Int))) (hs : ns.Pairwise (· ≤ ·)) : ns = (rowOf ps i).map fun n : Nat => (n : Int) := by
  refine PySem.W.ksm_same hp hs ?_
  rw [List.pairwise_map]
  exact List.Pairwise.imp (fun h => by omega) (rowOf_sorted g i)
theorem adj_of {many : Nat} {ps : PS} (g : Good many ps) {a b : Nat} (h : (a, b) ∈ ps) : adj ps a b = true ∧ adj ps b a = true := by
  have h1 := (g.lt _ h).1
  refine ⟨decide_eq_true ?_, decide_eq_true ?_⟩
  · exact List.mem_filterMap.mpr ⟨(a, b), h, by simp⟩
  · have h1 : a < b := h1
    exact List.mem_filterMap.mpr ⟨(a, b), h, by have : ¬ a = b := by omega
                                                simp [this]⟩
theorem clash_of {many : Nat} {ps : PS} (g : Good many ps) {a b : Nat} (h : (a, b) ∈ ps) : clash ps a b = true := by
  have h1 : a < b := (g.lt _ h).1
  unfold clash
  rw [(adj_of g h).1]
  have : ¬ a = b := by omega
  simp [this]
/-! ### the slots, each the least that no lesser clashing place has -/
def lesser (ps : PS) (n : Nat) : List Nat := ((List.range n).filter fun l => clash ps l n).map fun l => (slotsUpto ps n).getD l 0
theorem slots_stay (ps : PS) {i : Nat} : ∀ {n m : Nat}, i < n → n ≤ m → (slotsUpto ps m)[i]? = (slotsUpto ps n)[i]?
  | n, 0, h, h2 => by omega
  | n, m + 1, h, h2 => by
    by_cases e : n = m + 1
    · rw [e]
    · show (slotsUpto ps m ++ _)[i]? = _
      rw [List.getElem?_append_left (by rw [slots_len]; omega)]
      exact slots_stay ps h (by omega)
theorem slots_at (ps : PS) {i m : Nat} (h : i < m) : (slotsUpto ps m)[i]? = some (least (lesser ps i)) := by
  rw [slots_stay ps (Nat.lt_succ_self i) h]
  show (slotsUpto ps i ++ [_])[i]? = _
  rw [List.getElem?_append_right (by rw [slots_len]; exact Nat.le_refl _), slots_len, Nat.sub_self]
  rfl
theorem slots_get (ps : PS) {i m : Nat} (h : i < m) : (slotsUpto ps m).getD i 0 = least (lesser ps i) := by
  rw [List.getD_eq_getElem?_getD, slots_at ps h]
  rfl
theorem lesser_eq (ps : PS) {i m : Nat} (h : i ≤ m) : lesser ps i = ((List.range i).filter fun l => clash ps l i).map fun l => (slotsUpto ps m).getD l 0 := by
  unfold lesser
  refine List.map_congr_left fun l hl => ?_
  have hl : l < i := List.mem_range.mp (List.mem_filter.mp hl).1
  rw [slots_get ps hl, slots_get ps (Nat.lt_of_lt_of_le hl h)]
/-- clashing places have unlike slots -/
theorem slots_apart (ps : PS) {a b m : Nat} (h : a < b) (hb : b < m) (hc : clash ps a b = true) : (slotsUpto ps m).getD a 0 ≠ (slotsUpto ps m).getD b 0 := by
  intro e
  rw [slots_get ps hb] at e
  refine least_not (lesser ps b) ?_
  rw [← e, lesser_eq ps (Nat.le_of_lt hb)]
  exact List.mem_map.mpr ⟨a, List.mem_filter.mpr ⟨List.mem_range.mpr h, hc⟩, rfl⟩
theorem slots_hold_ok {m : Nat} (ps : PS) : slotsHold m ps ((slotsUpto ps m).map fun n : Nat => (n : Int)) = true := by
  unfold slotsHold
  have gd : ∀ i, i < m → ((slotsUpto ps m).map fun n : Nat => (n : Int)).getD i 0 = (((slotsUpto ps m).getD i 0 : Nat) : Int) := by
    intro i hi
    rw [List.getD_eq_getElem?_getD, List.getD_eq_getElem?_getD, List.getElem?_map, slots_at ps hi]
    rfl
  have h1 : decide (((slotsUpto ps m).map fun n : Nat => (n : Int)).length = m) = true := decide_eq_true (by rw [List.length_map, slots_len])
  have h2 : (((slotsUpto ps m).map fun n : Nat => (n : Int)).any fun n => decide (n < 0)) = false := by
    rw [List.any_eq_false]
    intro x hx
    obtain ⟨n, _, rfl⟩ := List.mem_map.mp hx
    rw [decide_eq_false (by omega)]
    decide
  rw [h1, h2]
  show ((List.range m).all fun pl => _) = true
  rw [List.all_eq_true]
  intro pl hpl
  have hpl := List.mem_range.mp hpl
  rw [Bool.not_eq_true', List.any_eq_false]
  intro l hl
  have hl := List.mem_range.mp hl
  rw [gd l (by omega), gd pl hpl]
  intro hh
  rw [Bool.and_eq_true, decide_eq_true_eq] at hh
  exact slots_apart ps hl hpl hh.2 (by have := hh.1; omega)
theorem slots_hold_no {m : Nat} {ps : PS} {ns : List Int} {a b : Nat} (hab : a < b) (hb : b < m) (hc : clash ps a b = true) (e : ns.getD a 0 = ns.getD b 0) : slotsHold m ps ns = false := by
  unfold slotsHold
  have : ((List.range m).all fun pl => !((List.range pl).any fun l => decide (ns.getD l 0 = ns.getD pl 0) && clash ps l pl)) = false := by
    rw [List.all_eq_false]
    refine ⟨b, List.mem_range.mpr hb, ?_⟩
    rw [Bool.not_eq_true', Bool.not_eq_false]
    rw [List.any_eq_true]
    exact ⟨a, List.mem_range.mpr hab, by rw [hc, decide_eq_true e]; rfl⟩
  rw [this, Bool.and_false, Bool.and_false]
theorem given_vN (ps : PS) (i m : Nat) : given i (fun j => clash ps j i) (fun j => V.int (((slotsUpto ps m).getD j 0 : Nat) : Int)) = vN (((List.range i).filter fun l => clash ps l i).map fun l => (slotsUpto ps m).getD l 0) := by
  unfold given vN
  rw [List.map_map]
  rfl
theorem lesser_len (ps : PS) (n : Nat) : (lesser ps n).length ≤ n := by
  unfold lesser
  rw [List.length_map]
  have h := List.length_filter_le (fun l => clash ps l n) (List.range n)
  rw [List.length_range] at h
  exact h
end Wm
end
section
set_option Elab.async false
set_option linter.all false
set_option maxRecDepth 100000
set_option maxHeartbeats 4000000
namespace Wm
open PySem PySem.Spec PyProof.Rows L2 Lf
open Evl
theorem bag_lst {H : Hp} {b : Addr × Addr} (h : Bag H b) : ∃ xs, H b.1 = some (.lst xs) := let ⟨_, _, _, _, h1, _⟩ := h; ⟨_, h1⟩
theorem tup_ne {H : Hp} {b : Addr × Addr} {t : Addr} {xs : List V} (h : Bag H b) (ht : H t = some (.tup xs)) : t ≠ b.1 := let ⟨_, h1⟩ := bag_lst h; ne_of ht h1 (by intro z; cases z)
theorem PairsIn.step {H H' : Hp} {b : Addr × Addr} {ws : List V} {ps : PS} (h : PairsIn H ws ps) (hb : Bag H b) (s : Step b H H') : PairsIn H' ws ps := ⟨h.1, fun i p hp => let ⟨t, h1, h2⟩ := h.2 i p hp; ⟨t, h1, s.at (tup_ne hb h2) h2⟩⟩
theorem PairsIn.mask {H : Hp} {b : Addr × Addr} {ws : List V} {ps : PS} (h : PairsIn H ws ps) (hb : Bag H b) : PairsIn (mask b.1 H) ws ps := ⟨h.1, fun i p hp => let ⟨t, h1, h2⟩ := h.2 i p hp; ⟨t, h1, by rw [mask_at (tup_ne hb h2)]; exact h2⟩⟩
theorem seldom_at {way : Int} (h0 : 0 ≤ way) (h1 : way < 6) : ∃ sd : Int, atI [V.int 9, V.int 9, V.int 3, V.int 5, V.int 9, V.int 2] way = some (.int sd) ∧ 2 ≤ sd ∧ sd ≤ 9 := by
  obtain ⟨n, rfl⟩ := Int.eq_ofNat_of_zero_le h0
  have hn : n < 6 := by omega
  match n, hn with
  | 0, _ => exact ⟨9, rfl, by decide, by decide⟩
  | 1, _ => exact ⟨9, rfl, by decide, by decide⟩
  | 2, _ => exact ⟨3, rfl, by decide, by decide⟩
  | 3, _ => exact ⟨5, rfl, by decide, by decide⟩
  | 4, _ => exact ⟨9, rfl, by decide, by decide⟩
  | 5, _ => exact ⟨2, rfl, by decide, by decide⟩
theorem tany_take {b : Addr × Addr} {σ : L2.St} {H : Hp} {many : Int} {i j : Nat} (hb : Bag H b) (hi : σ[i]? = some (some (.ref b.1))) (hj : σ[j]? = some (some (.int many))) (hm : 0 < many ∧ many < 1073741824) :
    TAny (Step b) (tTest (tOp rEq (tCl spTake E0 (tCons (tVar i) (tCons (tVar j) tNil))) (tC (.int 0)))) σ H := fun Q q =>
  ⟨_, hi, _, hj, b, many, rfl, hb, hm, fun v H' _ _ bg s => ⟨rfl, _, rfl, q _ _ (.draw bg s)⟩⟩
theorem RowsIn.mask {H0 H : Hp} {b : Addr} {ws : List V} {rows : List (List Nat)} (h : RowsIn H ws rows) (hb : H0 b ≠ none) (hf : ∀ (i : Nat) (t : Addr), ws[i]? = some (.ref t) → H0 t = none) : RowsIn (mask b H) ws rows := ⟨h.1, fun i row hr => by
  obtain ⟨t, h1, h2⟩ := h.2.1 i row hr
  refine ⟨t, h1, ?_⟩
  have : t ≠ b := fun e => hb (e ▸ hf i t h1)
  rw [mask_at this]
  exact h2, h.2.2⟩
theorem WebNew.mask {K : PySem.W.Frag} {C : Addr} {H0 H : Hp} {x : Addr} {m : Nat} {ps : PS} {b : Addr × Addr} (h : WebNew C H0 H x m ps) (hb0 : Bag H0 b) (hb : Bag H b) : WebAt K C (mask b.1 H) x m ps := by
  obtain ⟨g, dx, a1, a2, ws1, ws2, h1, h2, h3, h4, h5, f0, f1, f2, fr⟩ := h
  have nb : H0 b.1 ≠ none := by
    obtain ⟨xs, q⟩ := bag_lst hb0
    rw [q]
    exact fun z => nomatch z
  have ne : ∀ {a : Addr}, H0 a = none → a ≠ b.1 := fun h e => nb (e ▸ h)
  exact ⟨g, dx, a1, a2, by rw [mask_at (ne f0)]; exact h1, (h4.mask hb).dp (sq_of (by rw [mask_at (ne f1)]; exact h2)), .lst (sq_of (by rw [mask_at (ne f2)]; exact h3)) (h5.mask nb fr).dps⟩
theorem RowsIn.snoc {H : Hp} {ws : List V} {rows : List (List Nat)} {t : Addr} {row : List Nat} (h : RowsIn H ws rows) (ht : H t = some (.lst (vN row))) (hf : ∀ j : Nat, ws[j]? ≠ some (.ref t)) : RowsIn H (ws ++ [.ref t]) (rows ++ [row]) := by
  have hl := h.1
  refine ⟨by rw [List.length_append, List.length_append, hl] <;> rfl, fun i r hr => ?_, fun i j u h1 h2 => ?_⟩
  · by_cases hi : i < rows.length
    · rw [List.getElem?_append_left hi] at hr
      obtain ⟨u, h1, h2⟩ := h.2.1 i r hr
      exact ⟨u, by rw [List.getElem?_append_left (by omega)]; exact h1, h2⟩
    · rw [List.getElem?_append_right (by omega)] at hr
      have e0 : i - rows.length = 0 := by
        have := (List.getElem?_eq_some_iff.mp hr).1
        simp at this
        omega
      rw [e0] at hr
      cases hr
      refine ⟨t, ?_, ht⟩
      rw [List.getElem?_append_right (by omega), hl, e0]
      rfl
  · have old : ∀ (k : Nat), (ws ++ [V.ref t])[k]? = some (.ref u) → (ws[k]? = some (.ref u)) ∨ (k = ws.length ∧ u = t) := by
      intro k hk
      by_cases q : k < ws.length
      · rw [List.getElem?_append_left q] at hk
        exact .inl hk
      · rw [List.getElem?_append_right (by omega)] at hk
        have q2 := (List.getElem?_eq_some_iff.mp hk).1
        have e0 : k = ws.length := by simp at q2; omega
        subst e0
        rw [Nat.sub_self] at hk
        cases hk
        exact .inr ⟨rfl, rfl⟩
    rcases old i h1 with a | ⟨a, a2⟩ <;> rcases old j h2 with c | ⟨c, c2⟩
    · exact h.2.2 i j u a c
    · rw [c2] at a
      exact absurd a (hf i)
    · rw [a2] at c
      exact absurd c (hf j)
    · omega
theorem RowsIn.updD {H : Hp} {ws : List V} {rows : List (List Nat)} {D : Addr} {o : HO} (h : RowsIn H ws rows) (hf : ∀ j : Nat, ws[j]? ≠ some (.ref D)) : RowsIn (L2.upd H D o) ws rows := ⟨h.1, fun i r hr => by
  obtain ⟨u, h1, h2⟩ := h.2.1 i r hr
  have nu : u ≠ D := fun e => hf i (e ▸ h1)
  exact ⟨u, h1, by rw [upd_ne nu]; exact h2⟩, h.2.2⟩
theorem RowsIn.notnew {H : Hp} {ws : List V} {rows : List (List Nat)} {t : Addr} (h : RowsIn H ws rows) (ht : H t = none) : ∀ j : Nat, ws[j]? ≠ some (.ref t) := fun j hj => by
  have hl := (List.getElem?_eq_some_iff.mp hj).1
  have hl2 : j < rows.length := by rw [← h.1]; exact hl
  obtain ⟨u, h1, h2⟩ := h.2.1 j _ (List.getElem?_eq_getElem hl2)
  rw [hj] at h1
  cases h1
  rw [ht] at h2
  cases h2
end Wm
end
section
set_option Elab.async false
set_option linter.all false
set_option maxRecDepth 100000
set_option maxHeartbeats 4000000
namespace Wm
open PySem PySem.Spec PyProof.Rows L2 Lf
open Evl
/-! data that is short enough to be written out -/
structure Rep (n w : Nat) (d : PyData) : Prop where
  sh : Sh n d
  wt : PyData.weight d ≤ w
  sm : PyData.leavesShort 13 d = true
  ok : PyData.showable d = true
theorem weightAll_le {w : Nat} : ∀ {ds : List PyData}, (∀ d ∈ ds, PyData.weight d ≤ w) → PyData.weightAll ds ≤ ds.length * (w + 1)
  | [], _ => Nat.zero_le _
  | d :: ds, h => by
    have h1 := h d List.mem_cons_self
    have h2 := weightAll_le (ds := ds) fun x hx => h x (List.mem_cons_of_mem _ hx)
    rw [PyData.weightAll, List.length_cons, Nat.succ_mul]
    omega
theorem smAll : ∀ {ds : List PyData}, (∀ d ∈ ds, PyData.leavesShort 13 d = true) → PyData.leavesShortAll 13 ds = true
  | [], _ => rfl
  | d :: ds, h => by
    rw [PyData.leavesShortAll, h d List.mem_cons_self, smAll (ds := ds) fun x hx => h x (List.mem_cons_of_mem _ hx)]
    rfl
theorem okAll : ∀ {ds : List PyData}, (∀ d ∈ ds, PyData.showable d = true) → PyData.showableAll ds = true
  | [], _ => rfl
  | d :: ds, h => by
    rw [PyData.showableAll, h d List.mem_cons_self, okAll (ds := ds) fun x hx => h x (List.mem_cons_of_mem _ hx)]
    rfl
theorem Rep.mono {m n v w : Nat} {d : PyData} (h : Rep m v d) (e : m ≤ n) (e2 : v ≤ w) : Rep n w d := ⟨h.sh.mono e, Nat.le_trans h.wt e2, h.sm, h.ok⟩
theorem log_lt {k j : Nat} (h : k < 2 ^ (j + 1)) : k.log2 < j + 1 := by
  by_cases q : k = 0
  · rw [q]
    exact Nat.succ_pos _
  · exact (Nat.log2_lt q).mpr h
theorem Rep.int {i : Int} (h : i.natAbs < 10 ^ 12) : Rep 0 40 (.int i) := by
  have h1 : i.natAbs.log2 < 39 + 1 := log_lt (Nat.lt_of_lt_of_le h (by decide))
  refine ⟨Sh.int i, ?_, ?_, ?_⟩
  · rw [PyData.weight]
    split <;> omega
  · rw [PyData.leavesShort]
    exact decide_eq_true (PyData.shown_int_le h)
  · rw [PyData.showable]
    exact decide_eq_true (by omega)
theorem Rep.bl (b : Bool) : Rep 0 0 (.bool b) := ⟨Sh.bl b, Nat.le_refl _, rfl, rfl⟩
theorem Rep.non : Rep 0 0 .none := ⟨Sh.non, Nat.le_refl _, rfl, rfl⟩
theorem Rep.list {n w : Nat} {ds : List PyData} (h : ∀ d ∈ ds, Rep n w d) : Rep (n + 1) (ds.length * (w + 1)) (.list ds) := ⟨Sh.list fun d hd => (h d hd).sh, by
  rw [PyData.weight]
  exact weightAll_le fun d hd => (h d hd).wt, by
  rw [PyData.leavesShort]
  exact smAll fun d hd => (h d hd).sm, by
  rw [PyData.showable]
  exact okAll fun d hd => (h d hd).ok⟩
theorem Rep.tup {n w : Nat} {ds : List PyData} (h : ∀ d ∈ ds, Rep n w d) : Rep (n + 1) (ds.length * (w + 1)) (.tuple ds) := ⟨Sh.tup fun d hd => (h d hd).sh, by
  rw [PyData.weight]
  exact weightAll_le fun d hd => (h d hd).wt, by
  rw [PyData.leavesShort]
  exact smAll fun d hd => (h d hd).sm, by
  rw [PyData.showable]
  exact okAll fun d hd => (h d hd).ok⟩
theorem Rep.size {n : Nat} {d : PyData} (h : Rep n 1000000 d) : d.shown.length ≤ sizeLine := PyData.shown_fits (B := 13) (by decide) (by decide) h.sm (Nat.le_trans h.wt (by decide))
theorem Rep.eqv {n w : Nat} {d : PyData} (h : Rep n w d) : PyData.eqv d d = true := SeqAt.eqv_refl d h.sh.can
theorem rep_dN {ns : List Nat} (h : ∀ n ∈ ns, n < 1000) : Rep 1 (ns.length * 41) (dN ns) := by
  have := Rep.list (n := 0) (w := 40) (ds := ns.map fun n : Nat => PyData.int (n : Int)) (fun d hd => by
    obtain ⟨n, hn, rfl⟩ := List.mem_map.mp hd
    have := h n hn
    exact Rep.int (by show n < _; omega))
  rw [List.length_map] at this
  exact this
theorem rep_dP {p : Nat × Nat} (h1 : p.1 < 1000) (h2 : p.2 < 1000) : Rep 1 82 (dP p) := Rep.tup (n := 0) (w := 40) (ds := [.int (p.1 : Int), .int (p.2 : Int)]) (fun d hd => by
  rcases List.mem_cons.mp hd with rfl | hd
  · exact Rep.int (by show p.1 < _; omega)
  · rw [List.mem_singleton.mp hd]
    exact Rep.int (by show p.2 < _; omega))
theorem rep_dPs {m : Nat} {ps : PS} (g : Good m ps) : Rep 2 100000 (dPs ps) := by
  have m10 := g.m10
  have few := g.few
  have := Rep.list (n := 1) (w := 82) (ds := ps.map dP) (fun d hd => by
    obtain ⟨p, hp, rfl⟩ := List.mem_map.mp hd
    have := g.lt p hp
    exact rep_dP (by omega) (by omega))
  rw [List.length_map] at this
  exact this.mono (Nat.le_refl _) (by omega)
theorem rep_row {m : Nat} {ps : PS} (g : Good m ps) (i : Nat) : Rep 1 100000 (dN (rowOf ps i)) := by
  have few : (rowOf ps i).length ≤ 1000 := Nat.le_trans (List.length_filterMap_le ..) g.few
  have m10 := g.m10
  exact (rep_dN fun n hn => by have := rowOf_lt g hn; omega).mono (Nat.le_refl _) (by omega)
theorem rep_slots {m : Nat} (ps : PS) (h : m ≤ 10) : Rep 1 100000 (dN (slotsUpto ps m)) := by
  have e := slots_len ps m
  refine (rep_dN fun n hn => ?_).mono (Nat.le_refl _) (by omega)
  obtain ⟨i, hi, rfl⟩ := List.mem_iff_getElem.mp hn
  have him : i < m := by omega
  have h1 := slots_at ps him
  rw [List.getElem?_eq_getElem hi] at h1
  have h0 := Option.some.inj h1
  have h2 := least_le (lesser ps i)
  have h3 := lesser_len ps i
  omega
/-! alike: equal, and written alike -/
def spAlike (K : PySem.W.Frag) : Sp := fun vs H Q _ => ∃ u v d, vs = [u, v] ∧ Dp K H u d ∧ Dp K H v d ∧ Rep 60 1000000 d ∧ RetV (.bl true) H Q
section
variable {K : PySem.W.Frag} {σ : L2.St} {H : Hp} {te : TE} {xs : List V} {D : Ends}
theorem ev_repr {u : V} {d : PyData} (h : Ev te σ H u) (hd : Dp K H u d) (r : Rep 60 1000000 d) : Ev (tCB (rRepr K) (tCons te tNil)) σ H (.str d.shown) := ev_cb (ea_cons h ea_nil) fun H2 e2 Q q => ⟨u, d, rfl, dp_ex e2 _ _ hd, r.ok, PyData.hasDict_of_canLay d r.sh.can, r.sh.dep, r.size, q H2 (Ex.refl _)⟩
theorem rv_eqD {u v : V} {d : PyData} {n w : Nat} (hu : Dp K H u d) (hv : Dp K H v d) (r : Rep n w d) (hn : n ≤ 64) : RV (rEqD K) u v H (.bl true) := rv_val fun H2 e2 Q k => ⟨d, d, dp_ex e2 _ _ hu, dp_ex e2 _ _ hv, r.sh.shaped hn, r.sh.shaped hn, by rw [r.eqv]; exact k⟩
theorem rv_neD {u v : V} {d : PyData} {n w : Nat} (hu : Dp K H u d) (hv : Dp K H v d) (r : Rep n w d) (hn : n ≤ 64) : RV (rNeD K) u v H (.bl false) := rv_val fun H2 e2 Q k => ⟨d, d, dp_ex e2 _ _ hu, dp_ex e2 _ _ hv, r.sh.shaped hn, r.sh.shaped hn, by rw [r.eqv]; exact k⟩
end
section
variable {σ : L2.St} {H : Hp} {te tu : TE} {xs ys : List V} {v : V} {D : Ends}
theorem s_retLL (h : EvL te σ H xs) (h2 : EvL tu σ H ys) (k : ∀ l l2 p H1, H l = none → H l2 = none → H p = none → Ex H H1 → H1 l = some (.lst xs) → H1 l2 = some (.lst ys) → H1 p = some (.tup [.ref l, .ref l2]) → D.rt (.ref p) H1) : tRet (tTup (tCons te (tCons tu tNil))) D σ H :=
  h H (Ex.refl H) _ fun l H1 l0 e1 hl => h2 H1 e1 _ fun l2 H2 l20 e2 hl2 => ⟨by show 2 ≤ sizeLine; decide, fun p hp => k l l2 p _ l0 (fresh_back e1 l20) (fresh_back (e1.trans e2) hp) ((e1.trans e2).trans (Ex.new hp)) (Ex.new hp _ _ (e2 _ _ hl)) (Ex.new hp _ _ hl2) upd_same⟩
theorem s_retLV (h : EvL te σ H xs) (h2 : Ev tu σ H v) (k : ∀ l p H1, H l = none → H p = none → Ex H H1 → H1 l = some (.lst xs) → H1 p = some (.tup [.ref l, v]) → D.rt (.ref p) H1) : tRet (tTup (tCons te (tCons tu tNil))) D σ H :=
  h H (Ex.refl H) _ fun l H1 l0 e1 hl => h2 H1 e1 _ fun H2 e2 => ⟨by show 2 ≤ sizeLine; decide, fun p hp => k l p _ l0 (fresh_back (e1.trans e2) hp) ((e1.trans e2).trans (Ex.new hp)) (Ex.new hp _ _ (e2 _ _ hl)) upd_same⟩
end
/-! two lists hidden: the bag and one more -/
def M2 (b : Addr × Addr) (q : Addr) (H : Hp) : Hp := mask q (mask b.1 H)
theorem M2.le (b : Addr × Addr) (q : Addr) (H : Hp) : Ex (M2 b q H) (mask b.1 H) := mask_le _ _
theorem M2.step {b : Addr × Addr} {q : Addr} {H H' : Hp} (s : Step b H H') : Ex (M2 b q H) (M2 b q H') := mask_ex s.2
theorem M2.put {b : Addr × Addr} {q : Addr} {H : Hp} {o : HO} : M2 b q (L2.upd H q o) = M2 b q H := by
  funext a
  unfold M2
  by_cases e : a = q
  · rw [e, mask_self, mask_self]
  · rw [mask_at e, mask_at e]
    by_cases e2 : a = b.1
    · rw [e2, mask_self, mask_self]
    · rw [mask_at e2, mask_at e2, upd_ne e]
theorem M2.at {b : Addr × Addr} {q a : Addr} {H : Hp} (h1 : a ≠ b.1) (h2 : a ≠ q) : M2 b q H a = H a := (mask_at h2).trans (mask_at h1)
theorem PairsIn.mask1 {H : Hp} {p : Addr} {us ws : List V} {ps : PS} (h : PairsIn H ws ps) (hp : H p = some (.lst us)) : PairsIn (Lf.mask p H) ws ps := ⟨h.1, fun i x hx => let ⟨t, h1, h2⟩ := h.2 i x hx; ⟨t, h1, by rw [mask_at (ne_of h2 hp (by intro z; cases z))]; exact h2⟩⟩
theorem WebNew.mask1 {C : Addr} {H0 H : Hp} {x : Addr} {m : Nat} {ps : PS} {p : Addr} {us : List V} (h : WebNew C H0 H x m ps) (hp0 : H0 p ≠ none) (hp : H p = some (.lst us)) : WebNew C H0 (Lf.mask p H) x m ps := by
  obtain ⟨g, dx, a1, a2, ws1, ws2, h1, h2, h3, h4, h5, f0, f1, f2, fr⟩ := h
  have ne : ∀ {a : Addr}, H0 a = none → a ≠ p := fun h e => hp0 (e ▸ h)
  exact ⟨g, dx, a1, a2, ws1, ws2, by rw [mask_at (ne f0)]; exact h1, by rw [mask_at (ne f1)]; exact h2, by rw [mask_at (ne f2)]; exact h3, h4.mask1 hp, h5.mask hp0 fr, f0, f1, f2, fr⟩
theorem bag_none {H : Hp} {b : Addr × Addr} (h : Bag H b) : H b.1 ≠ none := by
  obtain ⟨xs, q⟩ := bag_lst h
  rw [q]
  exact fun z => nomatch z
theorem M2.web {K : PySem.W.Frag} {C : Addr} {H0 H : Hp} {x q : Addr} {m : Nat} {ps : PS} {b : Addr × Addr} {us : List V} (h : WebNew C H0 H x m ps) (hb0 : Bag H0 b) (hb : Bag H b) (hq0 : H0 q ≠ none) (hq : H q = some (.lst us)) (nq : q ≠ b.1) : WebAt K C (M2 b q H) x m ps := by
  obtain ⟨xs, q1⟩ := bag_lst hb
  exact ((h.mask1 (bag_none hb0) q1).mask1 hq0 (us := us) (by rw [mask_at nq]; exact hq)).at
theorem M2.pairs {K : PySem.W.Frag} {H : Hp} {q a : Addr} {ws us : List V} {ps : PS} {b : Addr × Addr} (h : PairsIn H ws ps) (hb : Bag H b) (hq : H q = some (.lst us)) (nq : q ≠ b.1) (ha : H a = some (.lst ws)) (n1 : a ≠ b.1) (n2 : a ≠ q) : Dp K (M2 b q H) (.ref a) (dPs ps) := by
  obtain ⟨xs, q1⟩ := bag_lst hb
  exact ((h.mask1 q1).mask1 (us := us) (by rw [mask_at nq]; exact hq)).dp (sq_of ((M2.at n1 n2).trans ha))
theorem M2.rows {K : PySem.W.Frag} {H0 H : Hp} {q a : Addr} {ws : List V} {rows : List (List Nat)} {b : Addr × Addr} (h : RowsIn H ws rows) (hf : ∀ (i : Nat) (t : Addr), ws[i]? = some (.ref t) → H0 t = none) (hb : H0 b.1 ≠ none) (hq : H0 q ≠ none) (ha : H a = some (.lst ws)) (n1 : a ≠ b.1) (n2 : a ≠ q) : Dp K (M2 b q H) (.ref a) (dNs rows) :=
  .lst (sq_of ((M2.at n1 n2).trans ha)) ((h.mask hb hf).mask hq hf).dps
theorem Bag_upd {H : Hp} {b : Addr × Addr} {q : Addr} {o : HO} (h : Bag H b) (n1 : q ≠ b.1) (n2 : q ≠ b.2) : Bag (L2.upd H q o) b := by
  obtain ⟨x, y, z, ns, h1, h2, r⟩ := h
  exact ⟨x, y, z, ns, by rw [upd_ne n1.symm]; exact h1, by rw [upd_ne n2.symm]; exact h2, r⟩
theorem WebNew.ex {C : Addr} {H0 H H' : Hp} {x : Addr} {m : Nat} {ps : PS} (h : WebNew C H0 H x m ps) (e : Ex H H') : WebNew C H0 H' x m ps := by
  obtain ⟨g, dx, a1, a2, ws1, ws2, h1, h2, h3, h4, h5, f0, f1, f2, fr⟩ := h
  exact ⟨g, dx, a1, a2, ws1, ws2, e _ _ h1, e _ _ h2, e _ _ h3, h4.ex e, h5.ex e, f0, f1, f2, fr⟩
theorem WebNew.put {C : Addr} {H0 H : Hp} {x : Addr} {m : Nat} {ps : PS} {p : Addr} {us vs : List V} (h : WebNew C H0 H x m ps) (hp0 : H0 p ≠ none) (hp : H p = some (.lst us)) : WebNew C H0 (L2.upd H p (.lst vs)) x m ps := by
  obtain ⟨g, dx, a1, a2, ws1, ws2, h1, h2, h3, h4, h5, f0, f1, f2, fr⟩ := h
  have ne : ∀ {a : Addr}, H0 a = none → a ≠ p := fun h e => hp0 (e ▸ h)
  exact ⟨g, dx, a1, a2, ws1, ws2, by rw [upd_ne (ne f0)]; exact h1, by rw [upd_ne (ne f1)]; exact h2, by rw [upd_ne (ne f2)]; exact h3, h4.upd hp, h5.updD fun j hj => ne (fr j p hj) rfl, f0, f1, f2, fr⟩
theorem first_free {m : Nat} {b : List Nat} (h : least b < m) : ((List.range m).filter fun n => !decide (n ∈ b))[0]? = some (least b) := by
  rw [← List.head?_eq_getElem?, List.head?_filter, List.find?_range_eq_some]
  refine ⟨by rw [decide_eq_false (least_not b)]; rfl, List.mem_range.mpr h, fun j hj => ?_⟩
  rw [decide_eq_true (least_in b j hj)]
  rfl
end Wm
end
section
set_option Elab.async false
set_option linter.all false
set_option maxRecDepth 100000
set_option maxHeartbeats 4000000
/-! Ln: plain kinds: what number_of and its like make of a value. -/
namespace Lf
open PySem PySem.Spec PyProof.Rows L2
open Evl
def optV : Option Int → V
  | none => .non
  | some i => .int i
/-- what number_of makes of a value -/
def Whole (K : PySem.W.Frag) (H : Hp) (v : V) (o : Option Int) : Prop := ∃ t b1 b2, TyX K H v t ∧ PySem.W.kitOne K t (.type "int") = some b1 ∧ PySem.W.kitOne K t (.type "bool") = some b2 ∧
  ((b1 = true ∧ b2 = false ∧ ∃ i, v = .int i ∧ o = some i) ∨ (b1 = false ∧ o = none) ∨ (b1 = true ∧ b2 = true ∧ o = none))
theorem Whole.int (K : PySem.W.Frag) (H : Hp) (i : Int) : Whole K H (.int i) (some i) := ⟨_, true, false, .base (.int i), kit_ty (by decide +kernel), kit_ty (by decide +kernel), .inl ⟨rfl, rfl, i, rfl, rfl⟩⟩
theorem Whole.non (K : PySem.W.Frag) (H : Hp) : Whole K H .non none := ⟨_, false, false, .base .non, kit_ty (by decide +kernel), kit_ty (by decide +kernel), .inr (.inl ⟨rfl, rfl⟩)⟩
theorem Whole.bl (K : PySem.W.Frag) (H : Hp) (b : Bool) : Whole K H (.bl b) none := ⟨_, true, true, .base (.bl b), kit_ty (by decide +kernel), kit_ty (by decide +kernel), .inr (.inr ⟨rfl, rfl, rfl⟩)⟩
theorem Whole.str (K : PySem.W.Frag) (H : Hp) (x : Str) : Whole K H (.str x) none := ⟨_, false, false, .base (.str x), kit_ty (by decide +kernel), kit_ty (by decide +kernel), .inr (.inl ⟨rfl, rfl⟩)⟩
theorem Whole.lst {K : PySem.W.Frag} {H : Hp} {a : Addr} {xs : List V} (h : SqL K H a xs) : Whole K H (.ref a) none := ⟨_, false, false, ty_of_l h, kit_ty (by decide +kernel), kit_ty (by decide +kernel), .inr (.inl ⟨rfl, rfl⟩)⟩
theorem Whole.tup {K : PySem.W.Frag} {H : Hp} {a : Addr} {xs : List V} (h : SqT K H a xs) : Whole K H (.ref a) none := ⟨_, false, false, ty_of_t h, kit_ty (by decide +kernel), kit_ty (by decide +kernel), .inr (.inl ⟨rfl, rfl⟩)⟩
def spNumber (K : PySem.W.Frag) : Sp := fun vs H Q _ => ∃ v o, vs = [v] ∧ Whole K H v o ∧ RetV (optV o) H Q
def inB (o : Option Int) (lo hi : Int) : Bool := match o with
  | none => false
  | some i => decide (lo ≤ i) && decide (i ≤ hi)
def spWithin (K : PySem.W.Frag) : Sp := fun vs H Q _ => ∃ v o lo hi, vs = [v, .int lo, .int hi] ∧ Whole K H v o ∧ RetV (.bl (inB o lo hi)) H Q
/-- isinstance of one built-in class -/
def Isi (K : PySem.W.Frag) (H : Hp) (v : V) (c : String) (b : Bool) : Prop := ∃ t, TyX K H v t ∧ PySem.W.kitOne K t (.type c) = some b
def RetU (xs : List V) (H : Hp) (Q : VK) : Prop := ∀ p H2, H p = none → Ex H H2 → H2 p = some (.tup xs) → Q (.ref p) H2
def SU (sp : Sp) (vs : List V) (H : Hp) (xs : List V) : Prop := ∀ H1, Ex H H1 → ∀ Q : VK, RetU xs H1 Q → ∀ E : XK, sp vs H1 Q E
section
variable {K : PySem.W.Frag} {σ : L2.St} {H H' : Hp} {ta tb te tx : TE} {t u : TT} {x y z v : V} {r : R2} {D : Ends} {tz : TS}
theorem sv_number (K : PySem.W.Frag) (H : Hp) (i : Int) : SV (spNumber K) [.int i] H (.int i) := fun H1 e Q q E => ⟨_, some i, rfl, .int K H1 i, q⟩
theorem sv_within (K : PySem.W.Frag) (H : Hp) (i lo hi : Int) : SV (spWithin K) [.int i, .int lo, .int hi] H (.bl (inB (some i) lo hi)) := fun H1 e Q q E => ⟨_, some i, lo, hi, rfl, .int K H1 i, q⟩
theorem eu_cl {sp : Sp} {vs xs : List V} {E : XK} {ta : TA} (h : EvA ta σ H vs) (hs : SU sp vs H xs) : EvU (tCl sp E ta) σ H xs := fun H1 e Q q =>
  h H1 e _ fun H2 e2 => hs H2 (e.trans e2) Q (fun p H3 hp e3 h3 => q p H3 (fresh_back e2 hp) (e2.trans e3) h3) E
theorem q_par {i j : Nat} {ta : TA} (h : EvA ta σ H [x, y]) (k : ∀ H1, Ex H H1 → tz D ((σ.set i (some x)).set j (some y)) H1) : tSeq (tPar i j ta) tz D σ H := h H (Ex.refl H) _ fun H1 e => ⟨x, y, rfl, k H1 e⟩
theorem s_par {i j : Nat} {ta : TA} (h : EvA ta σ H [x, y]) (k : ∀ H1, Ex H H1 → D.nx ((σ.set i (some x)).set j (some y)) H1) : tPar i j ta D σ H := h H (Ex.refl H) _ fun H1 e => ⟨x, y, rfl, k H1 e⟩
theorem q_asgG1 {g : TG} (h : Ev te σ H v) (k : ∀ H1, Ex H H1 → g v σ H1 (tz D)) : tSeq (tAsg te g) tz D σ H := h H (Ex.refl H) _ k
open Wm in
theorem rv_eqD2 {u v : V} {d d' : PyData} {n m : Nat} (hu : Dp K H u d) (hv : Dp K H v d') (s : Sh n d) (s' : Sh m d') (hn : n ≤ 64) (hm : m ≤ 64) : RV (rEqD K) u v H (.bl (PyData.eqv d d')) := rv_val fun H2 e2 Q k => ⟨d, d', dp_ex e2 _ _ hu, dp_ex e2 _ _ hv, s.shaped hn, s'.shaped hm, k⟩
open Wm in
theorem rv_neD2 {u v : V} {d d' : PyData} {n m : Nat} (hu : Dp K H u d) (hv : Dp K H v d') (s : Sh n d) (s' : Sh m d') (hn : n ≤ 64) (hm : m ≤ 64) : RV (rNeD K) u v H (.bl (!PyData.eqv d d')) := rv_val fun H2 e2 Q k => ⟨d, d', dp_ex e2 _ _ hu, dp_ex e2 _ _ hv, s.shaped hn, s'.shaped hm, k⟩
/-- the first operand a new tuple -/
theorem ev_opU1 {xs : List V} (ha : EvU ta σ H xs) (hb : ∀ H1, Ex H H1 → Ev tb σ H1 y) (hr : ∀ p H1, H1 p = some (.tup xs) → Ex H H1 → RV r (.ref p) y H1 z) : Ev (tOp r ta tb) σ H z := fun H1 e Q q =>
  ha H1 e _ fun p H2 _ e2 hp => hb H2 (e.trans e2) H2 (Ex.refl H2) _ fun H3 e3 => hr p H3 (e3 p _ hp) ((e.trans e2).trans e3) H3 (Ex.refl H3) Q fun H4 e4 => q H4 ((e2.trans e3).trans e4)
end
open Wm in
theorem sh_ints (ns : List Int) : Sh 1 (.tuple (ns.map PyData.int)) := Sh.tup (n := 0) fun d hd => by
  obtain ⟨i, _, rfl⟩ := List.mem_map.mp hd
  exact Sh.int i
open Wm in
theorem eqv_sh {n : Nat} {d : PyData} (h : Sh n d) : PyData.eqv d d = true := SeqAt.eqv_refl d h.can
theorem getD_int {ns : List Int} {i : Nat} (h : i < ns.length) : (ns.map V.int)[i]? = some (.int (ns.getD i 0)) := by
  rw [List.getElem?_map, List.getD_eq_getElem?_getD, List.getElem?_eq_getElem h]
  rfl
/-- ints in a tuple, as data -/
theorem dp_ints {K : PySem.W.Frag} {H : Hp} {p : Addr} {ns : List Int} (h : H p = some (.tup (ns.map V.int))) : Dp K H (.ref p) (.tuple (ns.map PyData.int)) := .tup (st_of h) Dps.ints
end Lf
end
section
set_option Elab.async false
set_option linter.all false
set_option maxRecDepth 100000
set_option maxHeartbeats 4000000
/-! Lx: sorted, min, max of data of any depth, by values. -/
namespace Lf
open PySem PySem.Spec PyProof.Rows L2
open Evl
section
variable {X : Cx}
/-- sorted(xs), the items data: bs the items with their data -/
def rSortD (K : PySem.W.Frag) : List V → Hp → VK → Prop := fun vs H Q => ∃ (a : Addr) (bs : List (V × PyData)), vs = [V.ref a] ∧ SqL K H a (bs.map (·.1)) ∧ (∀ b ∈ bs, Dp K H b.1 b.2) ∧ PySem.W.AllAlike (bs.map (·.2)) ∧ PySem.W.Sortable (bs.map (·.2)) ∧ (∀ b ∈ bs, b.2.depth ≤ 60) ∧
  ∀ p, H p = none → Q (.ref p) (upd H p (.lst ((bs.mergeSort (PySem.W.dataLe false (·.2))).map (·.1))))
theorem each_vals {bs : List (V × PyData)} : ∀ {us : List Value}, Vals (bs.map (·.1)) us → PySem.W.EachIs (fun u (b : V × PyData) => RelV b.1 u) us bs := by
  induction bs with
  | nil => intro us r; cases r; exact .nil
  | cons b bs ih => intro us r; cases r with | cons h t => exact .cons h (ih t)
theorem vals_each {bs : List (V × PyData)} : ∀ {us : List Value}, PySem.W.EachIs (fun u (b : V × PyData) => RelV b.1 u) us bs → Vals (bs.map (·.1)) us := by
  induction bs with
  | nil => intro us r; cases r; exact .nil
  | cons b bs ih => intro us r; cases r with | cons h t => exact .cons h (ih t)
theorem each_both {α β : Type} {R S : α → β → Prop} {as : List α} {bs : List β} (h : PySem.W.EachIs R as bs) (k : ∀ a b, b ∈ bs → R a b → S a b) : PySem.W.EachIs S as bs := by
  induction h with
  | nil => exact .nil
  | cons h1 h2 ih => exact .cons (k _ _ List.mem_cons_self h1) (ih fun a b hb hr => k a b (List.mem_cons_of_mem _ hb) hr)
theorem cr_sortD (hu : X.A.units + 65 < cLine) : CallR X (.builtin "sorted") (rSortD X.K) := by
  intro pins s σ H vs us Q I r h
  obtain ⟨a, bs, rfl, hs, hd, hal, hk, hdep, q⟩ := h
  obtain ⟨its, rv, hl, hz⟩ := I.list hs
  rw [Vals.ref1 r]
  have e := each_vals rv
  refine PySem.W.sorted_data (enc := fun b : V × PyData => b.2) hl.isList e (each_both e fun u b hb hr => Dp.reads I _ _ _ (hd b hb) hr) hal hk (by rw [List.length_map] at hz; exact hz) (fun b hb => by have := hdep b hb; omega) fun out ho eo => ?_
  obtain ⟨ep, he'⟩ := PyProof.Rows.sortedAll_at s.heap its out.toArray
  have hlen : ((bs.mergeSort (PySem.W.dataLe false (·.2))).map (·.1)).length ≤ sizeLine := by
    rw [List.length_map, List.length_mergeSort]
    rw [List.length_map] at hz
    exact hz
  exact ⟨.ref _, upd H (s.heap.objs.size + 1) (.lst ((bs.mergeSort (PySem.W.dataLe false (·.2))).map (·.1))), I.laid (t' := s.toks) (fun _ _ => PyProof.Rows.sortedAll_old) (Nat.le_succ _) ⟨hlen, out, ep, vals_each eo, he'⟩, rfl, q _ (I.hok.fresh (Nat.le_succ _))⟩
/-- min(xs), max(xs), the items data -/
def rMinD (K : PySem.W.Frag) : List V → Hp → VK → Prop := fun vs H Q => ∃ (a : Addr) (xs : List V) (d : PyData) (ds : List PyData), vs = [V.ref a] ∧ SqL K H a xs ∧ DpAll K H xs (d :: ds) ∧ PySem.W.AlikeAll (d :: ds) ∧ PyData.depthAll (d :: ds) ≤ 60 ∧
  ∀ (i : Nat) (v : V), xs[i]? = some v → (d :: ds)[i]? = some (PySem.W.minD d ds) → Dp K H v (PySem.W.minD d ds) → Q v H
theorem readsAll_get {h : Heap} : ∀ {vs : List Value} {xs : List PyData} {as : List Addr}, ReadsAll h vs xs as → ∀ (i : Nat) (v : Value), vs[i]? = some v → ∃ d bs, xs[i]? = some d ∧ Reads h v d bs
  | _, _, _, .nil, _, _, hv => by simp at hv
  | _, _, _, .cons (d := d) r rs, 0, v, hv => by
    have e := Option.some.inj (show some _ = some v from hv)
    subst e
    exact ⟨d, _, rfl, r⟩
  | _, _, _, .cons r rs, i + 1, v, hv => readsAll_get rs i v (by simpa using hv)
theorem vals_get : ∀ {xs : List V} {us : List Value} {i : Nat} {u : Value}, Vals xs us → us[i]? = some u → ∃ v, xs[i]? = some v ∧ RelV v u
  | _, _, _, _, .nil, h => by simp at h
  | _, _, 0, _, .cons r _, h => by
    have e := Option.some.inj (show some _ = some _ from h)
    subst e
    exact ⟨_, rfl, r⟩
  | _, _, i + 1, _, .cons _ t, h => vals_get (i := i) t (by simpa using h)
theorem cr_minD (hc : X.calm = true) (hu : X.A.units + 65 < cLine) : CallR X (.builtin "min") (rMinD X.K) := by
  intro pins s σ H vs us Q I r h
  obtain ⟨a, xs, d, ds, rfl, hs, hd, hal, hdep, q⟩ := h
  obtain ⟨its, rv, hl, hz⟩ := I.list hs
  rw [Vals.ref1 r]
  obtain ⟨as, ra⟩ := Dp.readsAll I _ _ _ hd rv
  refine PySem.W.min_list_data (vs := its.toArray) (I.ok.hd hc) hl.isList (by simpa using ra) hal (by omega) fun i v h' tk bs hv hr hk => ?_
  have hv' : its[i]? = some v := by simpa using hv
  obtain ⟨x, hx, rx⟩ := vals_get rv hv'
  obtain ⟨e, he, hde⟩ := Dps.get hd hx
  obtain ⟨e2, bs2, he2, r2⟩ := readsAll_get ra i v hv'
  rw [he] at he2
  cases he2
  have eq := (Reads.unique (PyProof.Rows.Reads.keeps hk r2) _ _ hr).1
  subst eq
  exact ⟨x, H, I.kept hk, rx, q i x hx he hde⟩
/-- o.f = v as a target -/
def gFld (K : PySem.W.Frag) (to : TE) (f : Str) : TG := fun v σ H Q => to σ H fun x H1 => ∃ a C dx fs, x = .ref a ∧ H1 a = some (.ins C dx fs) ∧ Cls K C ∧ NoAttr K C f ∧ fs.length < 1000 ∧ Q σ (upd H1 a (.ins C dx (putF f v fs)))
theorem pg_fld {o : Expr} {f : Str} {to : TE} {pos : Pos} (ho : PE X o to) (ha : ∀ v, assign (.Attribute o f pos) X.env v = (do
      let ov ← holding [v] (eval o X.env)
      standAt pos.atName
      holding [v, ov] (setAttr ov f v)
      release [v, ov] []) := by intro _; rfl) : PG X (.Attribute o f pos) (gFld X.K to f) := by
  refine ⟨fun pins s σ H v u Q I r h => ?_⟩
  rw [ha]
  refine wpAny_bind (wpAny_holding (thn (ho.run pins s σ H _ I h) fun ov s1 ⟨x, H1, I1, r1, a, C, dx, fs, ex, ea, c, n, l, q⟩ => ?_))
  subst ex
  obtain rfl : ov = Value.ref a := r1
  refine wpAny_bind (wpAny_standAt (wpAny_bind (wpAny_holding (setattr_ok I1 ea c n l r fun s3 I3 => ?_))))
  exact wpAny_release ⟨σ, _, I3, q⟩
theorem k_gfld {K : PySem.W.Frag} {o : Expr} {f : Str} {to : TE} {pos : Pos} (e : X.K = K) (ho : PE X o to) (ha : ∀ v, assign (.Attribute o f pos) X.env v = (do
      let ov ← holding [v] (eval o X.env)
      standAt pos.atName
      holding [v, ov] (setAttr ov f v)
      release [v, ov] []) := by intro _; rfl) : PG X (.Attribute o f pos) (gFld K to f) := by
  subst e
  exact pg_fld ho ha
/-- d != {} -/
def rNeDE : R2 := fun x y H Q => ∃ a b ks, x = .ref a ∧ y = .ref b ∧ H a = some (.dK ks) ∧ H b = some (.dK []) ∧ Q (.bl (!ks.isEmpty)) H
theorem op_neDE (hu : X.A.units < cLine) : OpR X (compareOp .NotEq) rNeDE := by
  intro pins s σ H x y v u Q I rx ry h
  obtain ⟨a, b, ks, rfl, rfl, ea, eb, q⟩ := h
  obtain rfl : v = Value.ref a := rx
  obtain rfl : u = Value.ref b := ry
  obtain ⟨_, ya, va, ra, da⟩ := (show ObjOk X.prog X.w H s.heap a (.dK ks) from I.hok a _ ea)
  obtain ⟨_, yb, vb, rb, db⟩ := (show ObjOk X.prog X.w H s.heap b (.dK []) from I.hok b _ eb)
  have hl : ks.length = va.length := ra.length
  have hb : vb.length = 0 := rb.length.symm
  cases ks with
  | nil => exact PySem.W.keq_ne (knd := mixKind X.prog X.w) (r := true) ya yb da db hu (fun _ => hits_all rb ra fun p hp => by simp at hp) (fin_bl I q (by simp at hl; simp [hb, ← hl]))
  | cons k ks =>
    have h1 : va.length ≠ 0 := by
      rw [← hl]
      simp
    exact PySem.W.keq_ne (knd := mixKind X.prog X.w) (r := true) ya yb da db hu (fun e => absurd (e.trans hb) h1) (fin_bl I q (by simp [hb, h1]))
end
/-! ### dicts walked by items, under a lock -/
theorem Ex.lock {H H' : Hp} {d : Addr} {u : HO} {o : Obj} (hd : H d = some u) (e : Ex (upd H d (.frz o u)) H') : Ex H (upd H' d u) := fun a w h => by
  by_cases q : a = d
  · subst q
    rw [upd_same, ← hd]
    exact h
  · rw [upd_ne q]
    exact e a w (by rw [upd_ne q]; exact h)
/-- each item a tuple of its own -/
def Tups (H : Hp) (xs : List V) (rs : List (List V)) : Prop := xs.length = rs.length ∧ ∀ (i : Nat) r, rs[i]? = some r → ∃ t, xs[i]? = some (.ref t) ∧ H t = some (.tup r)
theorem Tups.ex {H H' : Hp} {xs : List V} {rs : List (List V)} (h : Tups H xs rs) (e : Ex H H') : Tups H' xs rs := ⟨h.1, fun i r hr => let ⟨t, h1, h2⟩ := h.2 i r hr; ⟨t, h1, e _ _ h2⟩⟩
theorem Tups.nil {H : Hp} : Tups H [] [] := ⟨rfl, fun i r h => by simp at h⟩
theorem Tups.snoc {H : Hp} {xs : List V} {rs : List (List V)} {t : Addr} {r : List V} (h : Tups H xs rs) (ht : H t = some (.tup r)) : Tups H (xs ++ [.ref t]) (rs ++ [r]) := by
  refine ⟨by rw [List.length_append, List.length_append, h.1] <;> rfl, fun i q hq => ?_⟩
  by_cases hi : i < rs.length
  · rw [List.getElem?_append_left hi] at hq
    obtain ⟨u, h1, h2⟩ := h.2 i q hq
    exact ⟨u, by rw [List.getElem?_append_left (by rw [h.1]; exact hi)]; exact h1, h2⟩
  · rw [List.getElem?_append_right (by omega)] at hq
    have hl := (List.getElem?_eq_some_iff.mp hq).1
    have e0 : i - rs.length = 0 := by simp at hl; omega
    rw [e0] at hq
    cases hq
    exact ⟨t, by rw [List.getElem?_append_right (by rw [h.1]; omega), h.1, e0] <;> rfl, ht⟩
theorem Tups.mut {H : Hp} {xs : List V} {rs : List (List V)} {p : Addr} {o : HO} (h : Tups H xs rs) (hp : ∀ r, H p ≠ some (.tup r)) : Tups (upd H p o) xs rs := ⟨h.1, fun i r hr => let ⟨t, h1, h2⟩ := h.2 i r hr; ⟨t, h1, by
  have : t ≠ p := fun e => hp r (e ▸ h2)
  rw [upd_ne this]
  exact h2⟩⟩
theorem take_snoc {α : Type} {l : List α} {i : Nat} {x : α} (h : l[i]? = some x) : l.take (i + 1) = l.take i ++ [x] := by
  have hl := (List.getElem?_eq_some_iff.mp h).1
  rw [List.take_add_one, h]
  rfl
section
variable {K : PySem.W.Frag} {σ : L2.St} {H : Hp} {td : TE}
/-- [(v, k) for k, v in d.items()] -/
theorem lc_itemsVK {d : Addr} {kvs : List (Key × V)} {j1 j2 : Nat} {vs : List Nat} (hd : H d = some (.dK kvs)) (hz : kvs.length ≤ 40000) (hj : ∀ x y, (((wipe σ vs).set j1 (some x)).set j2 (some y))[j1]? = some (some x) ∧ (((wipe σ vs).set j1 (some x)).set j2 (some y))[j2]? = some (some y))
    (hw : ∀ x y, wipe (((wipe σ vs).set j1 (some x)).set j2 (some y)) vs = wipe σ vs) (hl : ∀ od, Ev td σ (upd H d (.frz od (.dK kvs))) (.ref d)) (Q : VK)
    (k : ∀ p xs H2, H p = none → Ex H H2 → H2 p = some (.lst xs) → Tups H2 xs (kvs.map fun kv => [kv.2, kV kv.1]) → Q (.ref p) H2) :
    tLockE (tLc (iItems td) (gTup K 2 (gCons (gName j1) (gCons (gName j2) gNil))) tYes (tTup (tCons (tVar j2) (tCons (tVar j1) tNil))) vs) σ H Q := by
  refine ⟨d, .dK kvs, hd, trivial, fun od => ?_⟩
  refine hl od _ (Ex.refl _) _ fun H1 e1 => ⟨d, od, kvs, rfl, e1 _ _ upd_same, fun D hD => ?_⟩
  refine lc_it walk_items (fun i H' => ∃ acc, H D = none ∧ D ≠ d ∧ Ex H1 H' ∧ H' D = some (.lst acc) ∧ Tups H' acc ((kvs.take i).map fun kv => [kv.2, kV kv.1]) ∧ acc.length = i) ?_ ?_ ?_ ?_
  · have nd : D ≠ d := fun e => by rw [e, e1 _ _ upd_same] at hD; cases hD
    refine ⟨[], ?_, nd, Ex.new hD, upd_same, Tups.nil, rfl⟩
    have := fresh_back e1 hD
    rw [upd_ne nd] at this
    exact this
  · rintro i H' hi ⟨acc, _, _, e2, _⟩
    exact e2 _ _ (e1 _ _ upd_same)
  · rintro i x H2 H3 hi ⟨acc, hD0, nd, e2, h2, ht, hlen⟩ ⟨T0, x0, y0, rfl, hT, rfl, fx, fy⟩
    have gi : kvs[i]? = some kvs[i] := List.getElem?_eq_getElem hi
    dsimp only at fx fy
    rw [gi] at fx fy
    cases fx
    cases fy
    have nT : D ≠ T0 := fun e => by rw [e, hT] at h2; cases h2
    refine ⟨T0, _, rfl, .inl (.inl upd_same), rfl, _, _, rfl, _, _, rfl, rfl, hw _ _, ?_⟩
    refine (yes_ok : EvT tYes _ _ true) _ (Ex.refl _) _ fun H4 e4 => ?_
    rw [if_pos rfl]
    have e3 : Ex H2 H4 := (Ex.new hT).trans e4
    refine ⟨_, (hj _ _).2, _, (hj _ _).1, (by show 2 ≤ sizeLine; decide), fun p hp => ⟨acc, ?_, sz_lt (by omega), acc ++ [.ref p], hD0, nd, ?_, upd_same, ?_, by rw [List.length_append, hlen]; rfl⟩⟩
    · rw [upd_ne (ne_of_none (e3 _ _ h2) hp)]
      exact e3 _ _ h2
    · exact Ex.mut ((e2.trans e3).trans (Ex.new hp)) hD
    · rw [take_snoc gi, List.map_append]
      refine Tups.snoc (Tups.mut ((ht.ex e3).ex (Ex.new hp)) ?_) ?_
      · intro r
        rw [upd_ne (ne_of_none (e3 _ _ h2) hp), e3 _ _ h2]
        exact fun z => nomatch z
      · have : p ≠ D := fun e => by rw [e, e3 _ _ h2] at hp; cases hp
        rw [upd_ne this]
        exact upd_same
  · rintro H' ⟨acc, hD0, nd, e2, h2, ht, hlen⟩
    rw [List.take_length] at ht
    have e12 := e1.trans e2
    refine ⟨e12 _ _ upd_same, ?_⟩
    refine k D acc _ hD0 (Ex.lock hd e12) (by rw [upd_ne nd]; exact h2) (ht.mut fun r => ?_)
    rw [e12 _ _ upd_same]
    exact fun z => nomatch z
theorem putK_new {kvs : List (Key × V)} {k : Key} {v : V} (h : k ∉ kvs.map (·.1)) : putK kvs k v = kvs ++ [(k, v)] := by
  unfold putK
  rw [if_neg]
  intro z
  obtain ⟨kv, h1, h2⟩ := List.any_eq_true.mp z
  exact h (List.mem_map.mpr ⟨kv, h1, of_decide_eq_true h2⟩)
theorem filter_take_snoc {α : Type} {l : List α} {i : Nat} {x : α} {f : α → Bool} (h : l[i]? = some x) : (l.take (i + 1)).filter f = if f x = true then (l.take i).filter f ++ [x] else (l.take i).filter f := by
  rw [take_snoc h, List.filter_append]
  cases hf : f x with
  | true => rw [if_pos rfl, List.filter_cons, if_pos hf] <;> rfl
  | false => rw [if_neg (by decide), List.filter_cons, if_neg (by rw [hf]; decide)] <;> exact List.append_nil _
theorem nodup_at {α β : Type} {l : List α} {g : α → β} (hn : (l.map g).Nodup) {i : Nat} {x : α} (h : l[i]? = some x) : g x ∉ (l.take i).map g := by
  have hs : l.map g = (l.take i).map g ++ (g x :: (l.drop (i + 1)).map g) := by
    have e : l = l.take i ++ (x :: l.drop (i + 1)) := by
      have := (List.getElem?_eq_some_iff.mp h)
      obtain ⟨hl, rfl⟩ := this
      rw [← List.drop_eq_getElem_cons hl, List.take_append_drop]
    conv => lhs; rw [e]
    rw [List.map_append, List.map_cons]
  rw [hs] at hn
  intro hm
  have := (List.nodup_append.mp hn).2.2 _ hm _ List.mem_cons_self
  exact this rfl
/-- {k: v for k, v in d.items() if ..} -/
theorem dc_items {d : Addr} {kvs : List (Key × V)} {j1 j2 : Nat} {vs : List Nat} {tt : TT} (f : Key × V → Bool) (hd : H d = some (.dK kvs)) (hz : kvs.length ≤ 40000) (hn : (kvs.map (·.1)).Nodup)
    (hj : ∀ x y, (((wipe σ vs).set j1 (some x)).set j2 (some y))[j1]? = some (some x) ∧ (((wipe σ vs).set j1 (some x)).set j2 (some y))[j2]? = some (some y))
    (hw : ∀ x y, wipe (((wipe σ vs).set j1 (some x)).set j2 (some y)) vs = wipe σ vs) (hl : ∀ od, Ev td σ (upd H d (.frz od (.dK kvs))) (.ref d))
    (ht : ∀ od kv H1, Ex (upd H d (.frz od (.dK kvs))) H1 → kv ∈ kvs → EvT tt (((wipe σ vs).set j1 (some (kV kv.1))).set j2 (some kv.2)) H1 (f kv)) (Q : VK)
    (k : ∀ p H2, H p = none → Ex H H2 → H2 p = some (.dK (kvs.filter f)) → Q (.ref p) H2) :
    tLockE (tDc (iItems td) (gTup K 2 (gCons (gName j1) (gCons (gName j2) gNil))) tt (tVar j1) (tVar j2) vs) σ H Q := by
  refine ⟨d, .dK kvs, hd, trivial, fun od => ?_⟩
  refine hl od _ (Ex.refl _) _ fun H1 e1 => ⟨d, od, kvs, rfl, e1 _ _ upd_same, fun D hD => ?_⟩
  have nd : D ≠ d := fun e => by rw [e, e1 _ _ upd_same] at hD; cases hD
  have hD0 : H D = none := by
    have := fresh_back e1 hD
    rw [upd_ne nd] at this
    exact this
  refine ⟨fun i m H' => m = kvs.length - i ∧ i ≤ kvs.length ∧ Ex H1 H' ∧ H' D = some (.dK ((kvs.take i).filter f)), ⟨kvs.length, by simp, Nat.zero_le _, Ex.new hD, upd_same⟩, ?_⟩
  rintro i m H2 ⟨rfl, hi, e2, h2⟩
  have hdl : H2 d = some (.frz od (.dK kvs)) := e2 _ _ (e1 _ _ upd_same)
  by_cases hlt : i < kvs.length
  · have gi : kvs[i]? = some kvs[i] := List.getElem?_eq_getElem hlt
    refine .inr ⟨walk_items.goes i H2 hlt hdl, fun H' => Ex H1 H' ∧ H' D = some (.dK ((kvs.take (i + 1)).filter f)), fun H' h' => ⟨kvs.length - (i + 1), by omega, rfl, hlt, h'.1, h'.2⟩, ?_⟩
    intro x H3 y
    obtain ⟨T0, x0, y0, rfl, hT, rfl, fx, fy⟩ := walk_items.yields i H2 x H3 hlt hdl y
    dsimp only at fx fy
    rw [gi] at fx fy
    cases fx
    cases fy
    refine ⟨T0, _, rfl, .inl (.inl upd_same), rfl, _, _, rfl, _, _, rfl, rfl, hw _ _, ?_⟩
    have e3 : Ex H2 (upd H2 T0 (.tup [kV kvs[i].1, kvs[i].2])) := Ex.new hT
    refine ht od kvs[i] _ ((e1.trans e2).trans e3) (List.getElem_mem hlt) _ (Ex.refl _) _ fun H4 e4 => ?_
    have e24 := e3.trans e4
    rw [filter_take_snoc gi]
    cases hf : f kvs[i] with
    | false => exact ⟨e2.trans e24, e24 _ _ h2⟩
    | true =>
      refine ⟨_, (hj _ _).1, _, (hj _ _).2, _, kvs[i].1, rfl, e24 _ _ h2, ?_, ?_, ?_⟩
      · refine sz_lt (Nat.lt_of_le_of_lt (List.length_filter_le ..) ?_)
        rw [List.length_take]
        omega
      · exact Ex.mut (e2.trans e24) hD
      · rw [upd_same, putK_new]
        · rfl
        · intro hm
          obtain ⟨kv, h3, h4⟩ := List.mem_map.mp hm
          exact nodup_at hn gi (List.mem_map.mpr ⟨kv, (List.mem_filter.mp h3).1, h4⟩)
  · have e0 : i = kvs.length := by omega
    subst e0
    rw [List.take_length] at h2
    have e12 := e1.trans e2
    exact .inl ⟨walk_items.stops H2 hdl, hdl, k D _ hD0 (Ex.lock hd e12) (by rw [upd_ne nd]; exact h2)⟩
end
/-! ### fields by name -/
theorem lk_hit {f : Str} {v : V} {r : List (Str × V)} : List.lookup f ((f, v) :: r) = some v := by rw [List.lookup_cons, beq_self_eq_true]
theorem lk_miss {f g : Str} {v : V} {r : List (Str × V)} (h : (f == g) = false) : List.lookup f ((g, v) :: r) = List.lookup f r := by rw [List.lookup_cons, h]
theorem lk_nil {f : Str} : List.lookup f ([] : List (Str × V)) = none := rfl
theorem pf_hit {f : Str} {v x : V} {r : List (Str × V)} : putF f v ((f, x) :: r) = (f, v) :: r := if_pos rfl
theorem pf_miss {f g : Str} {v x : V} {r : List (Str × V)} (h : ¬ g = f) : putF f v ((g, x) :: r) = (g, x) :: putF f v r := if_neg h
theorem pf_nil {f : Str} {v : V} : putF f v [] = [(f, v)] := rfl
section
variable {K : PySem.W.Frag} {σ : L2.St} {H H' : Hp} {te to : TE} {v : V} {D : Ends} {tz : TS} {C p dx : Addr} {fs : List (Str × V)} {f : Str}
theorem s_fld (hv : Ev te σ H v) (ho : ∀ H1, Ex H H1 → Ev to σ H1 (.ref p)) (hp : H p = some (.ins C dx fs)) (cl : Cls K C) (na : NoAttr K C f) (hz : fs.length < 1000) (k : ∀ H1, Ex H H1 → D.nx σ (upd H1 p (.ins C dx (putF f v fs)))) : sFld K to te f D σ H :=
  hv H (Ex.refl _) _ fun H1 e1 => ho H1 e1 H1 (Ex.refl _) _ fun H2 e2 => ⟨p, C, dx, fs, rfl, e2 _ _ (e1 _ _ hp), cl, na, hz, k H2 (e1.trans e2)⟩
theorem q_fld (hv : Ev te σ H v) (ho : ∀ H1, Ex H H1 → Ev to σ H1 (.ref p)) (hp : H p = some (.ins C dx fs)) (cl : Cls K C) (na : NoAttr K C f) (hz : fs.length < 1000) (k : ∀ H1, Ex H H1 → tz D σ (upd H1 p (.ins C dx (putF f v fs)))) : tSeq (sFld K to te f) tz D σ H :=
  s_fld (D := { D with nx := tz D }) hv ho hp cl na hz k
end
theorem dps_of_tups {K : PySem.W.Frag} {H : Hp} {α : Type} (r : α → List V) (dd : α → PyData) (h : ∀ a t, H t = some (.tup (r a)) → Dp K H (.ref t) (dd a)) : ∀ {as : List α} {xs : List V}, Tups H xs (as.map r) → DpAll K H xs (as.map dd)
  | [], xs, q => by
    have := q.1
    rw [List.map_nil, List.length_nil] at this
    rw [List.eq_nil_of_length_eq_zero this]
    exact .nil
  | a :: as, [], q => by
    have := q.1
    simp at this
  | a :: as, x :: xs, q => by
    obtain ⟨t, h1, h2⟩ := q.2 0 (r a) rfl
    cases h1
    refine .cons (h a t h2) (dps_of_tups r dd h ⟨by have := q.1; simpa using this, fun i s hs => ?_⟩)
    have := q.2 (i + 1) s (by simpa using hs)
    simpa using this
theorem given_filter (l : List Int) (f : Int → Bool) : given l.length (fun i => f (l.getD i 0)) (fun i => V.int (l.getD i 0)) = (l.filter f).map V.int := by
  unfold given
  have e : l = (List.range l.length).map fun i => l.getD i 0 := by
    refine List.ext_getElem (by simp) fun i h1 h2 => ?_
    simp [List.getD_eq_getElem?_getD, List.getElem?_eq_getElem h1]
  conv => rhs; rw [e]
  rw [List.filter_map, List.map_map]
  rfl
section
variable {K : PySem.W.Frag} {σ : L2.St} {H H' : Hp} {te to : TE} {xs : List V} {D : Ends} {tz : TS} {g : TG}
theorem q_asgUG (h : EvU te σ H xs) (k : ∀ p H1, H p = none → Ex H H1 → H1 p = some (.tup xs) → g (.ref p) σ H1 (tz D)) : tSeq (tAsg te g) tz D σ H := h H (Ex.refl H) _ k
theorem s_asgUG (h : EvU te σ H xs) (k : ∀ p H1, H p = none → Ex H H1 → H1 p = some (.tup xs) → g (.ref p) σ H1 D.nx) : tAsg te g D σ H := h H (Ex.refl H) _ k
end
/-! ### up to a word of the value and the heap -/
def EvX (te : TE) (σ : L2.St) (H : Hp) (R : V → Hp → Prop) : Prop := ∀ Q : VK, (∀ v H1, R v H1 → Q v H1) → te σ H Q
section
variable {K : PySem.W.Frag} {σ : L2.St} {H H' : Hp} {te to ta : TE} {R R' : V → Hp → Prop} {D : Ends} {tz : TS} {g : TG} {f : Str} {r : List V → Hp → VK → Prop}
theorem evx_cb1 (h : EvX te σ H R) (k : ∀ v H1, R v H1 → ∀ Q : VK, (∀ z H2, R' z H2 → Q z H2) → r [v] H1 Q) : EvX (tCB r (tCons te tNil)) σ H R' := fun Q q => h _ fun v H1 hr => k v H1 hr Q q
theorem q_fldX (h : EvX te σ H R) (k : ∀ v H1, R v H1 → to σ H1 fun x H2 => ∃ a C dx fs, x = .ref a ∧ H2 a = some (.ins C dx fs) ∧ Cls K C ∧ NoAttr K C f ∧ fs.length < 1000 ∧ tz D σ (upd H2 a (.ins C dx (putF f v fs)))) : tSeq (sFld K to te f) tz D σ H := h _ k
theorem s_fldX (h : EvX te σ H R) (k : ∀ v H1, R v H1 → to σ H1 fun x H2 => ∃ a C dx fs, x = .ref a ∧ H2 a = some (.ins C dx fs) ∧ Cls K C ∧ NoAttr K C f ∧ fs.length < 1000 ∧ D.nx σ (upd H2 a (.ins C dx (putF f v fs)))) : sFld K to te f D σ H := h _ k
theorem q_asgX (h : EvX te σ H R) (k : ∀ v H1, R v H1 → g v σ H1 (tz D)) : tSeq (tAsg te g) tz D σ H := h _ k
theorem s_asgX (h : EvX te σ H R) (k : ∀ v H1, R v H1 → g v σ H1 D.nx) : tAsg te g D σ H := h _ k
theorem s_retX (h : EvX te σ H R) (k : ∀ v H1, R v H1 → D.rt v H1) : tRet te D σ H := h _ k
theorem q_dropX (h : EvX te σ H R) (k : ∀ v H1, R v H1 → tz D σ H1) : tSeq (tDrop te) tz D σ H := h _ k
theorem s_dropX (h : EvX te σ H R) (k : ∀ v H1, R v H1 → D.nx σ H1) : tDrop te D σ H := h _ k
end
/-- for j in range(e), e drawn -/
theorem s_forD {b : Addr × Addr} {σ : L2.St} {H : Hp} {te : TE} {tu : TS} {D : Ends} {j : Nat} {N : Int} (hb : Bag H b) (h : DrI b te σ H fun n => 0 ≤ n ∧ n ≤ N) (hN : N ≤ 100000) (Pv : Nat → L2.St → Hp → Prop) (h0 : ∀ H1, Step b H H1 → Pv 0 σ H1)
    (hs : ∀ (i : Nat) σ' H', (i : Int) < N → Pv i σ' H' → tu { D with nx := Pv (i + 1), ct := Pv (i + 1), bk := D.nx } (σ'.set j (some (.int (i : Int)))) H') (hd : ∀ i σ' H', Pv i σ' H' → D.nx σ' H') : tFor (iRng1 (tCons te tNil)) (gName j) tu D σ H :=
  h H (.refl hb) _ fun n H1 s1 hn => ⟨n, rfl, by omega, by omega, for_range (lo := 0) (n := n.toNat) Pv (h0 H1 s1) (fun i σ' H' hi p => by
    have e0 : (0 : Int) + (i : Int) = (i : Int) := Int.zero_add _
    show tu { D with nx := Pv (i + 1), ct := Pv (i + 1), bk := D.nx } (σ'.set j (some (.int ((0 : Int) + (i : Int))))) H'
    rw [e0]
    exact hs i σ' H' (by omega) p) (hd _)⟩
theorem q_forD {b : Addr × Addr} {σ : L2.St} {H : Hp} {te : TE} {tu : TS} {D : Ends} {tz : TS} {j : Nat} {N : Int} (hb : Bag H b) (h : DrI b te σ H fun n => 0 ≤ n ∧ n ≤ N) (hN : N ≤ 100000) (Pv : Nat → L2.St → Hp → Prop) (h0 : ∀ H1, Step b H H1 → Pv 0 σ H1)
    (hs : ∀ (i : Nat) σ' H', (i : Int) < N → Pv i σ' H' → tu { D with nx := Pv (i + 1), ct := Pv (i + 1), bk := tz D } (σ'.set j (some (.int (i : Int)))) H') (hd : ∀ i σ' H', Pv i σ' H' → tz D σ' H') : tSeq (tFor (iRng1 (tCons te tNil)) (gName j) tu) tz D σ H :=
  s_forD (D := { D with nx := tz D }) hb h hN Pv h0 hs hd
/-- if take(b, ..) == 0: either way -/
theorem q_any {b : Addr × Addr} {σ : L2.St} {H : Hp} {t : TT} {D : Ends} {tz ta tb : TS} (h : TAny (Step b) t σ H) (h1 : ∀ H2, Step b H H2 → ta { D with nx := tz D } σ H2) (h2 : ∀ H2, Step b H H2 → tb { D with nx := tz D } σ H2) : tSeq (tIfS t ta tb) tz D σ H := h _ fun c H2 s => by
  cases c with
  | true => exact h1 H2 s
  | false => exact h2 H2 s
theorem tany_dri {b : Addr × Addr} {σ : L2.St} {H : Hp} {te : TE} {p : Int → Prop} {c : Int} (hb : Bag H b) (h : DrI b te σ H p) : TAny (Step b) (tTest (tOp rEq te (tC (.int c)))) σ H := fun Q q =>
  h H (.refl hb) _ fun i H1 s _ => ⟨rfl, _, rfl, q _ _ s⟩
theorem tany_lt {b : Addr × Addr} {σ : L2.St} {H : Hp} {te : TE} {p : Int → Prop} {c : Int} (hb : Bag H b) (h : DrI b te σ H p) : TAny (Step b) (tTest (tOp (rI0 fun i j => .bl (decide (i < j))) te (tC (.int c)))) σ H := fun Q q =>
  h H (.refl hb) _ fun i H1 s _ => ⟨_, _, rfl, rfl, _, rfl, q _ _ s⟩
/-- max(a, e) -/
theorem dri_max2 {b : Addr × Addr} {σ : L2.St} {H : Hp} {ta tb : TE} {p q r : Int → Prop} (h1 : DrI b ta σ H p) (h2 : DrI b tb σ H q) (h : ∀ i j, p i → q j → r (if j > i then j else i)) : DrI b (tCB (fun xs H Q => ∃ i j, xs = [V.int i, V.int j] ∧ Q (.int (if j > i then j else i)) H) (tCons ta (tCons tb tNil))) σ H r := fun H1 s Q k =>
  h1 H1 s _ fun i H2 s2 pi => h2 H2 (s.trans s2) _ fun j H3 s3 qj => ⟨i, j, rfl, k _ H3 (s2.trans s3) (h i j pi qj)⟩
section
variable {K : PySem.W.Frag} {b : Addr × Addr} {σ : L2.St} {H : Hp} {ta tb ti te : TE} {p q r : Int → Prop} {D : Ends} {tz : TS}
theorem q_parD {i j : Nat} (hb : Bag H b) (h1 : DrI b ta σ H p) (h2 : DrI b tb σ H q) (k : ∀ x y H1, Step b H H1 → p x → q y → tz D ((σ.set i (some (.int x))).set j (some (.int y))) H1) : tSeq (tPar i j (tCons ta (tCons tb tNil))) tz D σ H :=
  h1 H (.refl hb) _ fun x H1 s1 px => h2 H1 s1 _ fun y H2 s2 qy => ⟨_, _, rfl, k x y H2 (s1.trans s2) px qy⟩
theorem dri_ixL {a : Addr} {j : Nat} {os : List Int} (hσ : σ[j]? = some (some (.ref a))) (ha : H a = some (.lst (os.map V.int))) (na : a ≠ b.1) (hi : DrI b ti σ H fun i => 0 ≤ i ∧ i < os.length) (hp : ∀ o ∈ os, p o) : DrI b (tOp (rIxL K) (tVar j) ti) σ H p := fun H1 s Q k =>
  ⟨_, hσ, hi H1 s _ fun i H2 s2 ⟨i0, i1⟩ => by
    obtain ⟨n, rfl⟩ := Int.eq_ofNat_of_zero_le i0
    have hn : n < os.length := by omega
    exact ⟨a, os.map V.int, (n : Int), .int os[n], rfl, rfl, sq_of ((s.trans s2).at na ha), atI_nat (by rw [List.getElem?_map, List.getElem?_eq_getElem hn]; rfl), k _ H2 s2 (hp _ (List.getElem_mem hn))⟩⟩
theorem dri_lenL {a : Addr} {j : Nat} {xs : List V} (hσ : σ[j]? = some (some (.ref a))) (ha : H a = some (.lst xs)) (na : a ≠ b.1) (hp : p xs.length) : DrI b (tCB (rLen K) (tCons (tVar j) tNil)) σ H p := fun H1 s Q k =>
  ⟨_, hσ, a, xs, rfl, .inl (sq_of (s.at na ha)), k _ H1 (.refl s.1) hp⟩
theorem dri_ev {i : Int} (h : ∀ H1, Step b H H1 → Ev te σ H1 (.int i)) (hp : p i) : DrI b te σ H p := fun H1 s Q k => h H1 s H1 (Ex.refl _) Q fun H2 e => k i H2 (.pure s.1 e) hp
end
section
variable {K : PySem.W.Frag} {σ : L2.St} {H : Hp} {ta tb te : TE} {R : V → Hp → Prop} {S : V → V → Hp → Prop} {D : Ends} {tz tu : TS} {xs : List V} {E : XK}
theorem EvL.x (h : EvL te σ H xs) : EvX te σ H fun v H1 => ∃ p, v = .ref p ∧ H p = none ∧ Ex H H1 ∧ H1 p = some (.lst xs) := fun Q q => h H (Ex.refl _) Q fun p H1 h0 e h1 => q _ _ ⟨p, rfl, h0, e, h1⟩
theorem EvU.x (h : EvU te σ H xs) : EvX te σ H fun v H1 => ∃ p, v = .ref p ∧ H p = none ∧ Ex H H1 ∧ H1 p = some (.tup xs) := fun Q q => h H (Ex.refl _) Q fun p H1 h0 e h1 => q _ _ ⟨p, rfl, h0, e, h1⟩
theorem Ev.x {v : V} (h : Ev te σ H v) : EvX te σ H fun u H1 => u = v ∧ Ex H H1 := fun Q q => h H (Ex.refl _) Q fun H1 e => q _ _ ⟨rfl, e⟩
/-- if not alike(a, b): return False -/
theorem s_alikeX (h1 : EvX ta σ H R) (h2 : ∀ v H1, R v H1 → EvX tb σ H1 (S v)) (h : ∀ v u H2, S v u H2 → ∃ d, Dp K H2 v d ∧ Dp K H2 u d ∧ Wm.Rep 60 1000000 d) (k : ∀ v u H2 H3, S v u H2 → Ex H2 H3 → D.nx σ H3) : tIfS (tNot (tB (tCl (Wm.spAlike K) E (tCons ta (tCons tb tNil))))) tu tNext D σ H :=
  h1 _ fun v H1 r1 => h2 v H1 r1 _ fun u H2 r2 => let ⟨d, hv, hu, hr⟩ := h v u H2 r2; ⟨v, u, d, rfl, hv, hu, hr, fun H3 e3 => ⟨true, rfl, k v u H2 H3 r2 e3⟩⟩
theorem q_alikeX (h1 : EvX ta σ H R) (h2 : ∀ v H1, R v H1 → EvX tb σ H1 (S v)) (h : ∀ v u H2, S v u H2 → ∃ d, Dp K H2 v d ∧ Dp K H2 u d ∧ Wm.Rep 60 1000000 d) (k : ∀ v u H2 H3, S v u H2 → Ex H2 H3 → tz D σ H3) : tSeq (tIfS (tNot (tB (tCl (Wm.spAlike K) E (tCons ta (tCons tb tNil))))) tu tNext) tz D σ H := s_alikeX (D := { D with nx := tz D }) h1 h2 h k
end
section
variable {X : Cx}
/-- d.update(e), e another dict -/
def rUpdate : V → List V → Hp → VK → Prop := fun x vs H Q => ∃ a b ks ls, x = .ref a ∧ vs = [.ref b] ∧ H a = some (.dK ks) ∧ H b = some (.dK ls) ∧ a ≠ b ∧ ks.length + ls.length ≤ sizeLine ∧ Q .non (upd H a (.dK (mergeK ks ls)))
theorem mt_update : MtR X "dict.update" rUpdate := by
  intro pins s σ H x vs v us Q I rx rv h
  obtain ⟨a, b, ks, ls, rfl, rfl, ha, hb, ne, hz, q⟩ := h
  obtain rfl : v = Value.ref a := rx
  obtain ⟨u, rfl, ru⟩ := rv.one
  obtain rfl : u = Value.ref b := ru
  obtain ⟨z, hd, va, rel, dd⟩ := dk_of I.hok ha
  obtain ⟨z2, hd2, vb, rel2, dd2⟩ := dk_of I.hok hb
  refine call_meetsIn PySem.F.slot_dict_update dd.typeIs PySem.F.entry_dict_update (PySem.F.args_dict_update_2 _ _) (meets_dict_update (mixKind X.prog X.w) a b ne hd2) ⟨va, vb, dd, dd2, by rw [← rel.length, ← rel2.length]; exact hz, fun h' dd' _ hs => ?_⟩
  have he : ∃ q, h'.get? a = some q := let ⟨q, _, _, hq, _⟩ := dd'; ⟨q, hq⟩
  have hl : (mergeK ks ls).length ≤ sizeLine := Nat.le_trans (length_mergeK _ _) hz
  exact ⟨.non, _, d_write I (by rw [ha]; exact True.intro) hs he (dk_new hl hd (KV.merge rel2 rel) dd'), rfl, q⟩
end
/-! ### dicts walked by keys, under a lock -/
section
variable {K : PySem.W.Frag} {σ : L2.St} {H : Hp} {td te : TE} {tt : TT} {ta : TA}
theorem lc_keysV {d : Addr} {kvs : List (Key × V)} {j : Nat} {vs : List Nat} (f : Nat → Bool) (v : Nat → V) (hd : H d = some (.dK kvs)) (hz : kvs.length ≤ 40000) (hw : ∀ x, wipe ((wipe σ vs).set j (some x)) vs = wipe σ vs) (hl : ∀ od, Ev td σ (upd H d (.frz od (.dK kvs))) (.ref d))
    (ht : ∀ od (i : Nat) kv H1, Ex (upd H d (.frz od (.dK kvs))) H1 → kvs[i]? = some kv → EvT tt ((wipe σ vs).set j (some (kV kv.1))) H1 (f i))
    (he : ∀ od (i : Nat) kv H1, Ex (upd H d (.frz od (.dK kvs))) H1 → kvs[i]? = some kv → f i = true → Ev te ((wipe σ vs).set j (some (kV kv.1))) H1 (v i)) :
    EvX (tLockE (tLc (iKeys td) (gName j) tt te vs)) σ H fun u H2 => ∃ p, u = .ref p ∧ H p = none ∧ Ex H H2 ∧ H2 p = some (.lst (given kvs.length f v)) := by
  intro Q q
  refine ⟨d, .dK kvs, hd, trivial, fun od => ?_⟩
  refine hl od _ (Ex.refl _) _ fun H1 e1 => ⟨d, od, rfl, .inl ⟨kvs, e1 _ _ upd_same, fun D hD => ?_⟩⟩
  have nd : D ≠ d := fun e => by rw [e, e1 _ _ upd_same] at hD; cases hD
  have hD0 : H D = none := by
    have := fresh_back e1 hD
    rw [upd_ne nd] at this
    exact this
  refine lc_it walk_keys (Cw H1 f v D) ⟨hD, Ex.new hD, upd_same⟩ (fun i H' _ p => p.2.1 _ _ (e1 _ _ upd_same)) ?_ fun H' p => ?_
  · rintro i x H2 H3 hi p ⟨rfl, k, u, hk, rfl⟩
    exact ⟨hw _, cw_turn p (by omega) (ht od i (k, u) H1 e1 hk) (fun hf => he od i (k, u) H1 e1 hk hf)⟩
  · have e12 := e1.trans p.2.1
    exact ⟨e12 _ _ upd_same, q _ _ ⟨D, rfl, hD0, Ex.lock hd e12, by rw [upd_ne nd]; exact p.2.2⟩⟩
theorem lc_keysU {d : Addr} {kvs : List (Key × V)} {j : Nat} {vs : List Nat} (v : Key × V → List V) (hd : H d = some (.dK kvs)) (hz : kvs.length ≤ 40000) (hw : ∀ x, wipe ((wipe σ vs).set j (some x)) vs = wipe σ vs) (hl : ∀ od, Ev td σ (upd H d (.frz od (.dK kvs))) (.ref d))
    (he : ∀ od kv H1, Ex (upd H d (.frz od (.dK kvs))) H1 → kv ∈ kvs → EvU te ((wipe σ vs).set j (some (kV kv.1))) H1 (v kv)) :
    EvX (tLockE (tLc (iKeys td) (gName j) tYes te vs)) σ H fun u H2 => ∃ p xs, u = .ref p ∧ H p = none ∧ Ex H H2 ∧ H2 p = some (.lst xs) ∧ Tups H2 xs (kvs.map v) := by
  intro Q q
  refine ⟨d, .dK kvs, hd, trivial, fun od => ?_⟩
  refine hl od _ (Ex.refl _) _ fun H1 e1 => ⟨d, od, rfl, .inl ⟨kvs, e1 _ _ upd_same, fun D hD => ?_⟩⟩
  have nd : D ≠ d := fun e => by rw [e, e1 _ _ upd_same] at hD; cases hD
  have hD0 : H D = none := by
    have := fresh_back e1 hD
    rw [upd_ne nd] at this
    exact this
  refine lc_it walk_keys (fun i H' => ∃ acc, Ex H1 H' ∧ H' D = some (.lst acc) ∧ Tups H' acc ((kvs.take i).map v) ∧ acc.length = i) ⟨[], Ex.new hD, upd_same, Tups.nil, rfl⟩ (fun i H' _ p => let ⟨_, e2, _⟩ := p; e2 _ _ (e1 _ _ upd_same)) ?_ ?_
  · rintro i x H2 H3 hi ⟨acc, e2, h2, ht, hlen⟩ ⟨rfl, k, u, hk, rfl⟩
    refine ⟨hw _, ?_⟩
    refine (yes_ok : EvT tYes _ _ true) _ (Ex.refl _) _ fun H4 e4 => ?_
    rw [if_pos rfl]
    refine he od (k, u) _ ((e1.trans e2).trans e4) (List.mem_of_getElem? hk) _ (Ex.refl _) _ fun p H5 p0 e5 hp => ⟨acc, e5 _ _ (e4 _ _ h2), sz_lt (by omega), acc ++ [.ref p], Ex.mut ((e2.trans e4).trans e5) hD, upd_same, ?_, by rw [List.length_append, hlen]; rfl⟩
    have h25 := e5 _ _ (e4 _ _ h2)
    rw [take_snoc hk, List.map_append]
    refine Tups.snoc (Tups.mut (ht.ex (e4.trans e5)) ?_) ?_
    · intro r
      rw [h25]
      exact fun z => nomatch z
    · have : p ≠ D := fun e => by rw [e, e4 _ _ h2] at p0; cases p0
      rw [upd_ne this]
      exact hp
  · rintro H' ⟨acc, e2, h2, ht, hlen⟩
    rw [List.take_length] at ht
    have e12 := e1.trans e2
    refine ⟨e12 _ _ upd_same, q _ _ ⟨D, acc, rfl, hD0, Ex.lock hd e12, by rw [upd_ne nd]; exact h2, ht.mut fun r => ?_⟩⟩
    rw [e12 _ _ upd_same]
    exact fun z => nomatch z
end
theorem mergeK_new : ∀ {ls ks : List (Key × V)}, ((ks ++ ls).map (·.1)).Nodup → mergeK ks ls = ks ++ ls
  | [], ks, _ => (List.append_nil ks).symm
  | p :: ls, ks, h => by
    have hp : p.1 ∉ ks.map (·.1) := by
      rw [List.map_append, List.map_cons, List.nodup_append] at h
      intro hm
      exact h.2.2 _ hm _ List.mem_cons_self rfl
    show mergeK (putK ks p.1 p.2) ls = _
    rw [putK_new hp, mergeK_new (by rw [List.append_assoc]; exact h), List.append_assoc]
    rfl
/-- int(e == c) -/
theorem dri_eqI {b : Addr × Addr} {σ : L2.St} {H : Hp} {ta : TE} {p : Int → Prop} {c : Int} (h1 : DrI b ta σ H p) : DrI b (tCB (fun xs H Q => (∃ i, xs = [V.int i] ∧ Q (.int i) H) ∨ ∃ k, xs = [V.bl k] ∧ Q (.int (if k then 1 else 0)) H) (tCons (tOp rEq ta (tC (.int c))) tNil)) σ H fun x => 0 ≤ x ∧ x < 2 := fun H1 s Q k =>
  h1 H1 s _ fun i H2 s2 pi => ⟨rfl, .inr ⟨_, rfl, k _ H2 s2 (by split <;> omega)⟩⟩
end Lf
end
section
set_option Elab.async false
set_option linter.all false
set_option maxRecDepth 100000
set_option maxHeartbeats 4000000
/-! Ly: setdefault with a key that is a tuple. -/
namespace Lf
open PySem PySem.Spec PyProof.Rows L2
open Evl
variable {X : Cx}
theorem u2 {k : Nat} {A : Around} (hr : Room k A) : A.units + 1 < cLine := by have := hr.un; omega
def rSetdT : V → List V → Hp → VK → Prop := fun x xs H Q => ∃ (a : Addr) (kvs : List (List L2.Key × V)) (k : List L2.Key) (b : Addr) (d : V), x = .ref a ∧ xs = [.ref b, d] ∧ H a = some (.dT kvs) ∧ H b = some (.tup (k.map kV)) ∧ kvs.length < sizeLine ∧
  (∀ v, valV kvs k = some v → Q v H) ∧ (valV kvs k = none → Q d (upd H a (.dT (putK kvs k d))))
theorem mt_setdT (hu : X.A.units + 1 < cLine) : MtR X "dict.setdefault" rSetdT := by
  intro pins s σ H x xs v us Q I rx rxs h
  obtain ⟨a, kvs, k, b, d, rfl, rfl, ha, hb, hl, q1, q2⟩ := h
  cases rx
  obtain ⟨u1, u2, rfl, r1, r2⟩ := vals2 rxs
  cases r1
  obtain ⟨z, hd, xs', rel, dd⟩ := dt_of I.hok ha
  have hz : xs'.length ≤ sizeLine := by rw [← Paired.length rel]; exact z
  refine call_setdefault_heap (hsz := hz) (tupleKind_room_in1 hu) (key_of I.hok hb) hd dd (fun p hp => ?_) fun hn h' dd' hs => ?_
  · have r := rel.val k
    rw [hp] at r
    obtain ⟨v0, ev, rv⟩ : ∃ v0, valV kvs k = some v0 ∧ RelV v0 p.2 := by
      cases ev : valV kvs k with
      | none =>
        rw [ev] at r
        exact (show False from r).elim
      | some v0 =>
        rw [ev] at r
        exact ⟨v0, rfl, r⟩
    show EP X pins σ Q p.2 _
    exact ⟨v0, H, I.tok _, rv, q1 v0 ev⟩
  · have r := rel.val k
    rw [hn] at r
    have e : valV kvs k = none := by
      cases ev : valV kvs k with
      | none => rfl
      | some v0 =>
        rw [ev] at r
        exact (show False from r).elim
    have hl2 : (putK kvs k d).length ≤ sizeLine := by have := length_putK kvs k d; omega
    obtain ⟨q, es, ep, hq, h2, h3, h4, _, h5⟩ := dd'
    refine ⟨d, upd H a (.dT (putK kvs k d)), d_write I (by rw [ha]; exact True.intro) hs ⟨q, hq⟩ ⟨hl2, hd, _, (rel.put k hb r2).keeps fun c ys ec => ?_, q, es, ep, hq, h2, h3, h4, h5⟩, r2, q2 e⟩
    rw [upd_ne (ne_of ec ha (fun z => nomatch z))]
    exact ec
end Lf
end
section
set_option Elab.async false
set_option linter.all false
set_option maxRecDepth 100000
set_option maxHeartbeats 4000000
namespace Lf
open PySem PySem.Spec PyProof.Rows L2
open Evl
/-! ### text * int, text[::-1], told by how long the answer is -/
section
variable {X : Cx}
def rRepS : R2 := fun x y H Q => ∃ z n, x = .str z ∧ y = .int n ∧ 0 ≤ n ∧ n ≤ 1000 ∧ z.length ≤ 1000 ∧ ∀ r : Str, r.length = z.length * n.toNat → Q (.str r) H
theorem foldl_size : ∀ (n : Nat) (x acc : Array Cp), ((List.replicate n x).foldl (· ++ ·) acc).size = acc.size + x.size * n
  | 0, x, acc => by rw [List.replicate_zero, List.foldl_nil, Nat.mul_zero, Nat.add_zero]
  | n + 1, x, acc => by rw [List.replicate_succ, List.foldl_cons, foldl_size n, Array.size_append, Nat.mul_succ]; omega
theorem op_repS : OpR X (binaryOp .Mult) rRepS := by
  intro pins s σ H x y v u Q I rx ry h
  obtain ⟨z, n, rfl, rfl, n0, n1, hz, q⟩ := h
  obtain ⟨t, rfl⟩ := rx
  obtain ⟨t', rfl⟩ := ry
  obtain ⟨m, rfl⟩ := Int.eq_ofNat_of_zero_le n0
  have hm : m ≤ 1000 := by omega
  have hp : z.length * m ≤ 1000 * 1000 := Nat.mul_le_mul hz hm
  have hs : 1000 * 1000 ≤ sizeLine := by decide
  refine PySem.P.mul_str ?_ (fun h1 _ => ?_) (fun _ _ => ?_) ?_
  · rw [decide_eq_false (by omega), decide_eq_false (by omega)]; rfl
  · have h1 : 1 ≤ m := by omega
    have : (1000 : Int) ≤ (2 ^ 63 - 1) / (m : Int) := Int.le_ediv_of_mul_le (by omega) (by omega)
    omega
  · rw [Int.toNat_natCast]
    show decide (_ > sizeLine) = false
    exact decide_eq_false (by omega)
  · split
    · have h1 : m = 0 := by omega
      exact ⟨by decide, .str Str.empty, H, I.tok _, ⟨_, rfl⟩, q _ (by subst h1; rfl)⟩
    · split
      · rename_i h1 h2
        refine ⟨.str z, H, I, ⟨_, rfl⟩, q _ ?_⟩
        rcases Bool.or_eq_true_iff.mp h2 with h3 | h3
        · have : m = 1 := by have := eq_of_beq h3; omega
          subst this
          exact (Nat.mul_one _).symm
        · have : z.length = 0 := eq_of_beq h3
          rw [this, Nat.zero_mul]
      · have e : Str.length (⟨(List.replicate ((m : Nat) : Int).toNat z.cps).foldl (· ++ ·) #[]⟩ : Str) = z.length * m := by
          show ((List.replicate ((m : Nat) : Int).toNat z.cps).foldl (· ++ ·) #[]).size = _
          rw [foldl_size, Int.toNat_natCast]
          show 0 + z.length * m = _
          rw [Nat.zero_add]
        exact ⟨by rw [e]; omega, .str _, H, I.tok _, ⟨_, rfl⟩, q _ (by rw [e, Int.toNat_natCast])⟩
theorem back_ix (n : Nat) : Builtin.Str.strSliceIndices none none (-1) n = (List.range n).map fun k => n - 1 - k := by
  unfold Builtin.Str.strSliceIndices
  simp only [show ¬ ((-1 : Int) > 0) by decide, if_false]
  unfold sliceRange
  simp only [show ¬ ((-1 : Int) > 0) by decide, if_false]
  cases n with
  | zero => rfl
  | succ m =>
    have e1 : ((m + 1 : Nat) : Int) - 1 > -1 := by omega
    have e2 : ((((m + 1 : Nat) : Int) - 1 - -1 - -1 - 1) / (- -1)).toNat = m + 1 := by
      rw [show (- -1 : Int) = 1 from rfl, Int.ediv_one]
      omega
    rw [if_pos e1, e2]
    refine List.map_congr_left fun k hk => ?_
    have := List.mem_range.mp hk
    omega
theorem back_len (z : Str) : Str.length (⟨((Builtin.Str.strSliceIndices none none (-1) z.length).filterMap (z.cps[·]?)).toArray⟩ : Str) = z.length := by
  show (List.filterMap _ _).toArray.size = _
  rw [List.size_toArray, back_ix]
  have : ∀ l : List Nat, (∀ x ∈ l, x < z.length) → (l.filterMap (z.cps[·]?)).length = l.length := by
    intro l
    induction l with
    | nil => intro _; rfl
    | cons x l ih =>
      intro h
      have hx : x < z.cps.size := h x List.mem_cons_self
      rw [List.filterMap_cons, Array.getElem?_eq_getElem hx]
      show _ + 1 = _ + 1
      rw [ih fun y hy => h y (List.mem_cons_of_mem _ hy)]
  rw [this, List.length_map, List.length_range]
  intro x hx
  obtain ⟨k, hk, rfl⟩ := List.mem_map.mp hx
  have := List.mem_range.mp hk
  omega
def tRevS (te : TE) : TE := fun σ H Q => te σ H fun x H1 => ∃ z, x = .str z ∧ z.length ≤ 1000 ∧ ∀ r : Str, r.length = z.length → Q (.str r) H1
theorem pe_revS {e : Expr} {te : TE} {k : Nat} {p1 p2 p3 pos : Pos} (he : PE X e te) : PE X (.Subscript e (.Slice none none (some (.UnaryOp .USub (.Constant (.int 1) k p1) p2)) p3) pos) (tRevS te) := by
  refine ⟨fun pins s σ H Q I h => ?_⟩
  refine Subscript_ (thn (he.run pins s σ H _ I h) fun v s1 ⟨x, H1, I1, r1, q1⟩ => ?_)
  obtain ⟨z, ex, hz, q⟩ := q1
  subst ex
  obtain ⟨t, rfl⟩ := r1
  have hst : PO X (some (.UnaryOp .USub (.Constant (.int 1) k p1) p2)) (tPart (tUn (rU fun i => .int (-i)) (tC (.int 1)))) := po_some (pe_un un_neg pe_int)
  refine wpAny_Slice (thn (po_none.run pins s1 σ H1 (fun o H2 => o = none ∧ H2 = H1) I1 ⟨rfl, rfl⟩) fun vl s2 ⟨l, H2, I2, pl, el, e2⟩ => ?_)
  subst el e2
  refine thn (po_none.run pins s2 σ H2 (fun o H3 => o = none ∧ H3 = H2) I2 ⟨rfl, rfl⟩) fun vu s3 ⟨u, H3, I3, pu, eu, e3⟩ => ?_
  subst eu e3
  refine thn (hst.run pins s3 σ H3 (fun o H4 => o = some (-1) ∧ H4 = H3) I3 ⟨1, rfl, -1, rfl, rfl, rfl⟩) fun vs s4 ⟨o, H4, I4, ps, eo, e4⟩ => ?_
  subst eo e4
  have I5 : Inv X pins σ H4 { s4 with heap := s4.heap.push { cls := .type "slice", data := .fields #[vl, vu, vs] } } := I4.kept (t' := s4.toks) fun b ob q => Heap.get?_push_of_some _ q
  obtain ⟨l', rfl, el⟩ := IsPart.raw pl
  obtain ⟨u', rfl, eu⟩ := IsPart.raw pu
  obtain ⟨w', rfl, ew⟩ := IsPart.raw ps
  cases l' with
  | some l' => cases el
  | none =>
    cases u' with
    | some u' => cases eu
    | none =>
      cases w' with
      | none => cases ew
      | some w' =>
        obtain ⟨w', tw⟩ := w'
        cases ew
        show wpAny (model X.prog X.w) X.A (subscriptTail e (.Slice none none (some (.UnaryOp .USub (.Constant (.int 1) k p1) p2)) p3) (.str z t) (.ref s4.heap.objs.size)) (EP X pins σ Q) X.xe _
        refine tail_any (ops := [.str z t, .ref s4.heap.objs.size]) (typeIs_str _ z t) (F.slot_str_getitem.lookup) ?_ (by with_unfolding_all rfl)
        refine wpAny_getItem_str_slice (l := none) (u := none) (st := some (-1, tw)) ⟨_, Heap.get?_push_size _ rfl, rfl, rfl⟩ rfl ?_
        unfold sliceMade
        simp only [Option.map_some, Option.getD_some, show ((Int.negSucc 0 : Int) == 1) = false from rfl, show ((-1 : Int) == 1) = false from rfl, Bool.false_and, Bool.false_eq_true, if_false]
        have e : Str.length (⟨((slicePicked z none none (some (-1, tw))).filterMap (z.cps[·]?)).toArray⟩ : Str) = z.length := back_len z
        have h3 : 1000 ≤ sizeLine := by decide
        exact ⟨by rw [e]; omega, .str _, H4, I5.tok _, ⟨_, rfl⟩, q _ e⟩
theorem k_revS {p1 p2 p3 : Pos} {kk : Nat} (he : PE X e te) : PE X (.Subscript e (.Slice none none (some (.UnaryOp .USub (.Constant (.int 1) kk p1) p2)) p3) pos) (tRevS te) := pe_revS he
end
end Lf
end
section
set_option Elab.async false
set_option linter.all false
set_option maxRecDepth 100000
set_option maxHeartbeats 4000000
/-! Lq: one def whose code object's table may grow; an object made by keywords. -/
namespace Lf
open PySem PySem.Spec PyProof.Rows L2
open Evl
/-! ### the head: one table is known -/
section
variable {P : Program} {w : World} {K : PySem.W.Frag} {mg mb : Str → Option Value}
theorem lawT {k : Nat} {fa a cO pT : Addr} {fd : FuncData} {x : Str} {sp : Sp} {s : Shared} {vs : List Value} {ns : List Int}
    (KX : K.In s.heap) (hns : s.heap.Ns mainGlobals mg) (hb : s.heap.Ns builtinsNs mb) (hbb : ∀ x : Str, x ≠ "__name__" → mb x = bootBuiltins x) (lim : s.heap.NoLimit) (hg : s.gens = #[])
    (hT : s.heap.get? pT = some { cls := .none, data := .fields #[] }) (nT : K.lookup pT = none) (hC : PySem.W.CodeHd s.heap cO pT)
    (hbm : ∃ (bm : Addr) (ob : Obj), mg "__builtins__" = some (.ref bm) ∧ bm ≠ builtinsNs ∧ s.heap.get? bm = some ob ∧ ob.cls = .type "module" ∧ ob.dict = some builtinsNs ∧ ob.data = .plain)
    (ha : s.heap.get? a = some { cls := .type "list", data := .seq vs.toArray }) (hi : IntsAre vs ns) (hl : ns.length ≤ sizeLine)
    (F : ∀ base : Heap, K.In base → base.Ns mainGlobals mg → GxR.TabB base mg cO pT → Fn P w K mg base CX0 k fa fd [x] sp)
    (hbind : ∀ (s : Shared) (u : Value), BindsTo s fd ⟨[u], []⟩ [(x, u)]) (hr : Room k callerA) (hsp : ∀ H : Hp, GxR.TabG H pT → SqL K H a (ns.map V.int) → sp [.ref a] H (fun v _ => v = .bl true) fun _ _ _ => False) :
    codeAny (model P w) callerA (.call (.ref fa) ⟨[.ref a], []⟩) (fun r s' => r = .ok (.ret (.bool true)) ∧ OldK s.heap s'.heap ∧ s'.os = s.os ∧ AllBare s'.gens) s := by
  have rv : Vals (ns.map V.int) vs := vals_ints hi
  have many := hi.length
  have naT : a ≠ pT := fun z => by
    rw [z, hT] at ha
    have := congrArg Obj.data (Option.some.inj ha)
    cases (show Data.fields #[] = Data.seq vs.toArray _ from this)
  -- a heap that tells of the script, if it must, and of the table
  have core : ∀ H : Hp, H pT = some (.tbl #[]) → (∀ b, b ≠ pT → H b ≠ none → b = a ∧ K.lookup a = none ∧ ∃ ob xs, H b = some (.frz ob (.lst xs))) → HOk P w H s.heap → SqL K H a (ns.map V.int) →
      codeAny (model P w) callerA (.call (.ref fa) ⟨[.ref a], []⟩) (fun r s' => r = .ok (.ret (.bool true)) ∧ OldK s.heap s'.heap ∧ s'.os = s.os ∧ AllBare s'.gens) s := by
    intro H hH hO hok hS
    have off : ∀ {b : Addr} {o : Obj}, s.heap.get? b = some o → b ≠ pT → b ≠ a → H b = none := fun {b o} e h1 h2 => by
      cases q : H b with
      | none => rfl
      | some u => exact absurd (hO b h1 (by rw [q]; simp)).1 h2
    have offO : ∀ {b : Addr} {o : Obj}, s.heap.get? b = some o → (∀ xs n, o.data ≠ .seq xs n) → o.data ≠ .fields #[] → H b = none := fun {b o} e h1 h2 => off e (fun z => by rw [z, hT] at e; cases e; exact h2 rfl) (fun z => by rw [z, ha] at e; cases e; exact h1 _ _ rfl)
    have mapped : ∀ {b : Addr} {m : Str → Option Value}, s.heap.Ns b m → (hidT s.heap H).Ns b m := by
      rintro b m ⟨o, es, ep, e, d, r⟩
      exact ⟨o, es, ep, hidT_get e (offO e (fun xs n z => by rw [d] at z; cases z) (fun z => by rw [d] at z; cases z)), d, r⟩
    have kin : K.In (hidT s.heap H) := by
      intro b o e
      refine hidT_get (KX b o e) ?_
      cases q : H b with
      | none => rfl
      | some u =>
        by_cases hb : b = pT
        · rw [hb, nT] at e
          cases e
        · obtain ⟨e1, e2, _⟩ := hO b hb (by rw [q]; simp)
          rw [e1, e2] at e
          cases e
    obtain ⟨mc, l1, l2⟩ := lim
    have hTab : GxR.TabB (hidT s.heap H) mg cO pT := by
      refine ⟨?_, ?_, fun z => ?_⟩
      · obtain ⟨o, us, file, tf, flags, tg, inF, text, tt, e1, r1, r2, r3, r4⟩ := hC
        refine ⟨o, us, file, tf, flags, tg, inF, text, tt, hidT_get e1 (offO e1 (fun xs n z => by rw [r2] at z; cases z) fun z => ?_), r1, r2, r3, r4⟩
        rw [r2] at z
        cases z
        simp at r3
      · obtain ⟨bm, ob, b1, b2, b3, b4, b5, b6⟩ := hbm
        refine ⟨bm, ob, b1, b2, fun z => ?_, fun z => ?_, hidT_get b3 (offO b3 (fun xs n z => by rw [b6] at z; cases z) (fun z => by rw [b6] at z; cases z)), b4, b5, b6⟩
        · obtain ⟨o, es, ep, e, d, _⟩ := hns
          rw [z, e] at b3
          cases b3
          rw [d] at b6
          cases b6
        · rw [z, hT] at b3
          cases b3
          cases b6
      · obtain ⟨o, es, ep, e, d, _⟩ := hns
        rw [z, hT] at e
        cases e
        cases d
    have e0 : Env0 P w K mg (hidT s.heap H) callerA [] s H :=
      ⟨rfl, ⟨kin, mapped hns, ⟨mb, mapped hb, hbb⟩, ⟨mc, mapped l1, l2⟩⟩, fun b o e => of_hidT e, Nat.le_of_eq (hidT_size _ _), trivial, fun b hb => (List.not_mem_nil hb).elim, hok, .of_eq hg⟩
    refine codeAny_mono ((F _ kin (mapped hns) hTab).go callerA [] s H ⟨[.ref a], []⟩ [.ref a] [.ref a] _ _ rfl hr e0 (hbind s (.ref a)) (.cons rfl .nil) (hsp H ⟨#[], hH, trivial⟩ hS)) ?_
    intro r s' h
    rcases r with e | fl
    · exact (show False from h).elim
    · cases fl
      case ret u =>
        obtain ⟨v, H', os, bare, un, hok', r', q⟩ := h
        obtain rfl : v = .bl true := q
        obtain rfl : u = Value.bool true := r'
        have kept : ∀ b o, b ≠ pT → s.heap.get? b = some o → s'.heap.get? b = some o := by
          intro b o nb e
          cases q : H b with
          | none => exact un.keep b o e q (fun z => (List.not_mem_nil z).elim) (fun z => (List.not_mem_nil z).elim)
          | some u =>
            obtain ⟨_, _, ob, xs, z⟩ := hO b nb (by rw [q]; simp)
            have e1 := (hok b _ z).1
            have e2 := (hok' b _ (un.frzs b ob _ z)).1
            rw [e] at e1
            cases e1
            exact e2
        obtain ⟨more, hm⟩ := un.tbls pT #[] hH
        have hm' := hok' pT _ hm
        refine ⟨rfl, ⟨fun b o e => ?_, fun b o e => ?_⟩, os, bare⟩
        · by_cases nb : b = pT
          · subst nb
            rw [hT] at e
            cases e
            exact .inr (.inl ⟨(hC.tab hT).isCodeTable, rfl, #[], more, rfl, by rw [Array.empty_append] at hm' ⊢; exact hm'⟩)
          · exact .inl (kept b o nb e)
        · by_cases nb : b = pT
          · subst nb
            exact ⟨_, hm'⟩
          · exact ⟨o, kept b o nb e⟩
      all_goals exact (show False from h).elim
  cases hk : K.lookup a with
  | some o =>
    have e := KX a o hk
    rw [ha] at e
    cases e
    let H : Hp := upd (fun _ => none) pT (.tbl #[])
    have h1 : H pT = some (.tbl #[]) := upd_same
    have h2 : ∀ b, b ≠ pT → H b = none := fun b hb => upd_ne hb
    refine core H h1 (fun b hb z => (z (h2 b hb)).elim) (fun b u z => ?_) (.inr ⟨_, vs.toArray, _, hk, rfl, rfl, rfl, by rw [List.size_toArray, many]; exact hl, by simpa using rv⟩)
    by_cases hb : b = pT
    · subst hb
      rw [h1] at z
      cases z
      exact hT
    · rw [h2 b hb] at z
      cases z
  | none =>
    let H : Hp := upd (upd (fun _ => none) pT (.tbl #[])) a (.frz { cls := .type "list", data := .seq vs.toArray } (.lst (ns.map V.int)))
    have h0 : H a = some (.frz { cls := .type "list", data := .seq vs.toArray } (.lst (ns.map V.int))) := upd_same
    have h1 : H pT = some (.tbl #[]) := (upd_ne (Ne.symm naT)).trans upd_same
    have h2 : ∀ b, b ≠ pT → b ≠ a → H b = none := fun b hb hc => (upd_ne hc).trans (upd_ne hb)
    refine core H h1 (fun b hb z => ?_) (fun b u z => ?_) (.inl (.inr ⟨_, h0⟩))
    · by_cases hc : b = a
      · exact ⟨hc, hk, _, _, by rw [hc]; exact h0⟩
      · exact (z (h2 b hb hc)).elim
    · by_cases hb : b = pT
      · subst hb
        rw [h1] at z
        cases z
        exact hT
      · by_cases hc : b = a
        · subst hc
          rw [h0] at z
          cases z
          exact ⟨ha, by rw [List.length_map]; exact hl, vs, _, rv, ha⟩
        · rw [h2 b hb hc] at z
          cases z
end
/-- the goal that the head leaves, with the table of one def's code object: tn its name -/
theorem walkT {l : PySem.W.OpenLaw} {k : Nat} {q : Program} {loose : List Str} {XP : (Str → Option Value) → Heap → Prop} {YP : World → Heap → Prop} {d : DefRec} {K : Params → PySem.W.Frag} {sp : World → Addr → Sp} {x : Str} (tn : Str)
    (hn : l.most = some 63) (hdf : d.params.defaults = []) (hr : Room k callerA) (hrec : ((recsOf q).any fun e => e.name == tn) = true) (hY : ∀ (w : World) (h : Heap), YP w h → (K w.params).In h)
    (F : ∀ (w : World) (mg : Str → Option Value) (fa : Addr) (h : Heap), (K w.params).In h → h.Ns mainGlobals mg → mg d.name = some (.ref fa) →
      ∃ (fd : FuncData) (fT cO pT : Addr) (oT oC : Obj) (fdT : FuncData) (vT : Array Value), mg tn = some (.ref fT) ∧ (K w.params).lookup fT = some oT ∧ oT.data = .func fdT ∧ fdT.code = .ref cO ∧ (K w.params).lookup cO = some oC ∧ oC.data = .fields vT ∧ vT[11]? = some (.ref pT) ∧ (K w.params).lookup pT = none ∧
        (∀ (s : Shared) (u : Value), BindsTo s fd ⟨[u], []⟩ [(x, u)]) ∧ ∀ base : Heap, (K w.params).In base → base.Ns mainGlobals mg → GxR.TabB base mg cO pT → Fn l.prog w (K w.params) mg base CX0 k fa fd [x] (sp w pT))
    (hsp : ∀ (w : World) (pT : Addr) (H : Hp) (a : Addr) (ns : List Int), ns.length ≤ 63 → GxR.TabG H pT → SqL (K w.params) H a (ns.map V.int) → sp w pT [.ref a] H (fun v _ => v = .bl true) fun _ _ _ => False) :
    PySem.W.WalkO q loose XP YP l.row.toRowW d [] (fun f vs => PySem.call f vs) := by
  refine Att.attach_callB hn hdf ?_
  intro w s₀ s₁ mg mb fa o pm cd doc a vs ns G Y ho hd hcd hmg hobj hints hlen hbits hg
  have KX := hY w _ Y
  obtain ⟨fd, fT, cO, pT, oT, oC, fdT, vT, t1, t2, t3, t4, t5, t6, t7, t8, hb, hF⟩ := F w mg fa _ KX G.T.g hmg
  have tab : PySem.W.CodeHd s₁.heap cO pT ∧ s₁.heap.get? pT = some { cls := .none, data := .fields #[] } := by
    obtain ⟨dT, m1, m2⟩ := List.any_eq_true.mp hrec
    obtain ⟨f1, o1, fd1, c1, p1, g1, g2, g3, g4, g5, g6⟩ := G.T.tab dT m1
    rw [beq_iff_eq.mp m2, t1] at g1
    cases g1
    rw [KX _ _ t2] at g2
    cases g2
    rw [t3] at g3
    cases g3
    rw [t4] at g4
    cases g4
    have g6' := g6
    obtain ⟨⟨oc, vc, k1, k2, k3, k4⟩, k5⟩ := g6'
    rw [KX _ _ t5] at k1
    cases k1
    rw [t6] at k3
    cases k3
    rw [t7] at k4
    cases k4
    exact ⟨.of g5 g6, k5⟩
  exact lawT KX G.T.g G.T.b G.T.builtins G.T.nolimit hg tab.2 t8 tab.1 G.T.bmain hobj hints (Nat.le_trans hlen (by decide)) hF hb hr (fun H hT hS => hsp w pT H a ns hlen hT hS)
/-! ### a def whose code object is known -/
structure FunC (K : PySem.W.Frag) (x qual : Str) (st : Stmt) (f : Addr) (fd : FuncData) (cdv : Value) : Prop where
  ex : ∃ (oc : Value) (od : Option Addr) (kV doc pm : Value) (an : Option Addr) (ct : Value) (osl : Array (Option Value)),
    fd = PySem.W.fnOf x qual (defArgs st) (defBody st) (defScope st) .none kV doc pm an cdv ct ∧ K.lookup f = some ⟨oc, od, .func fd, osl⟩ ∧ PySem.W.codeIn K cdv qual = true
  kp : PySem.W.keepIn K (.ref f) = true
theorem func_mk {K : PySem.W.Frag} {x qual : Str} {st : Stmt} {f : Addr} {oc : Value} {od an : Option Addr} {osl : Array (Option Value)} {kV doc pm cdv ct : Value} (l : K.lookup f = some ⟨oc, od, .func (PySem.W.fnOf x qual (defArgs st) (defBody st) (defScope st) .none kV doc pm an cdv ct), osl⟩)
    (c : PySem.W.codeIn K cdv qual = true) (k : PySem.W.keepIn K (.ref f) = true) : FunC K x qual st f (PySem.W.fnOf x qual (defArgs st) (defBody st) (defScope st) .none kV doc pm an cdv ct) cdv := ⟨⟨oc, od, kV, doc, pm, an, ct, osl, rfl, l, c⟩, k⟩
structure DfC (K : PySem.W.Frag) (mg : Str → Option Value) (x : Str) (st : Stmt) (ps : List Str) (cO : Addr) : Prop where
  ex : ∃ (f : Addr) (fd : FuncData), FunC K x x st f fd (.ref cO) ∧ mg x = some (.ref f) ∧ Binds K fd ps []
theorem fnC {P : Program} {w : World} {K : PySem.W.Frag} {mg : Str → Option Value} {base : Heap} {k : Nat} {x qual : Str} {st : Stmt} {f : Addr} {fd : FuncData} {cdv : Value} {N ps : List Str} {sp : Sp} (D : FunC K x qual st f fd cdv) (S : FnScope N ps (defScope st))
    (many : ∀ vs H Q E, sp vs H Q E → vs.length = ps.length)
    (body : ∀ (A : Around) (outer : List Env) (s : Shared) (H : Hp) (vs : List V) (Q : VK) (E : XK), A.guards = some [] → Room k (A.deeper (envOfC qual (defScope st) s.heap.objs.size f cdv)) → sp vs H Q E →
      ∃ t, PSs (cxOf CX0 P w K mg base N qual (defScope st) f cdv A outer s H E).nox (defBody st) t ∧ t { nx := fun _ H' => Q .non H', rt := Q } (start N vs) H) : Fn P w K mg base CX0 (k + 1) f fd ps sp := by
  obtain ⟨oc, od, kV, doc, pm, an, ct, osl, rfl, lk, hcd⟩ := D.ex
  refine ⟨many, ?_⟩
  intro A outer s H args us vs Q E g hr e0 hb r hsp
  have up : ∀ b o, base.get? b = some o → s.heap.get? b = some o := fun b o e => (e0.bs b o e).1
  have kin : K.In s.heap := e0.mod.kin.keeps up
  refine codeAny_call_function hr.depth (kin _ _ lk) rfl S.co S.gen rfl (PySem.W.codeRec_of kin hcd) (hb _ _ _ _ ?_)
  refine wpAny_newFunctionEnv_cells S.kind ?_ ?_
  · rintro ⟨n, v⟩ hy
    have hp := (List.of_mem_zip hy).1
    refine (S.par n hp).imp id fun q => ⟨q, PySem.W.cellsFrom_some _ _ _ (.inl q)⟩
  · rintro env rfl s1 x1
    refine ⟨(e0.mod.nolimit.keeps up).keeps x1.toInCall.keep, codeAny_func ?_⟩
    obtain ⟨t, ht, hq⟩ := body A outer s H vs Q E g (hr.deeper _) hsp
    refine wpAny_mono (ht.nox.run [] s1 (start N vs) H _ (inv_start S hr.hd e0 (many _ _ _ _ hsp) r x1) hq) ?_ (fun e s' hs => hs)
    intro fl s' hs
    cases fl
    case ret u =>
      obtain ⟨v, σ', H', J, rv, q⟩ := hs
      exact ⟨v, H', J.os, J.bare, J.base, J.hok, rv, q⟩
    case next =>
      obtain ⟨σ', H', J, q⟩ := hs
      exact ⟨V.non, H', J.os, J.bare, J.base, J.hok, rfl, q⟩
    case brk => exact (let ⟨_, _, _, q⟩ := hs; False.elim q)
    case cont => exact (let ⟨_, _, _, q⟩ := hs; False.elim q)
theorem DfC.cal {P : Program} {w : World} {K : PySem.W.Frag} {mg : Str → Option Value} {base : Heap} {k : Nat} {x : Str} {st : Stmt} {N ps : List Str} {sp : Sp} {cO : Addr} (D : DfC K mg x st ps cO) (S : FnScope N ps (defScope st)) (many : ∀ vs H Q E, sp vs H Q E → vs.length = ps.length)
    (body : ∀ (f : Addr) (A : Around) (outer : List Env) (s : Shared) (H : Hp) (vs : List V) (Q : VK) (E : XK), A.guards = some [] → Room k (A.deeper (envOfC x (defScope st) s.heap.objs.size f (.ref cO))) → sp vs H Q E →
      ∃ t, PSs (cxOf CX0 P w K mg base N x (defScope st) f (.ref cO) A outer s H E).nox (defBody st) t ∧ t { nx := fun _ H' => Q .non H', rt := Q } (start N vs) H) : Cal P w K mg base CX0 (k + 1) x sp := by
  obtain ⟨f, fd, F, hm, b⟩ := D.ex
  exact ⟨f, fd, ps, fnC F S many (fun A outer s H vs Q E g hr h => body f A outer s H vs Q E g hr h), hm, F.kp, b⟩
/-- x in 'text' -/
theorem elt_in {P : Program} {w : World} {scope : Scope} {x z : Str} {j : Nat} {p1 p2 p3 : Pos} (hk : scope.kind = .function) (hl : scope.names.lookup x = some .local) (hd : (x == ("__debug__" : Str)) = false := by decide) :
    GxR.EltP P w scope x (.Compare (.Name x p1) [.In] [.Constant (.str z) j p2] p3) (fun c => decide (c ∈ z.cps.toList)) := by
  intro cenv A' E' c t s2 m2 hs hn hm
  refine wpAny_Compare1 (wpAny_Name (wpAny_loadName_local (by rw [hs]; exact hk) (show cenv.scope.names.lookup x = some .local by rw [hs]; exact hl) hn hm ?_) hd)
  refine Calls.Constant_str (PyProof.Rows.in_str ⟨?_, GxR.keeps_tok _ _⟩)
  exact congrArg Value.bool (PySem.StrLaws.found_one z c)
/-! ### an object made by keywords -/
section
variable {X : Cx} {k n : Nat} {f C : Addr} {fd : FuncData} {ps ks : List Str} {sp : Sp} {E : XK} {x : Str} {g : List Value → List Value → List Value} {gV : List V → List V → List V}
/-- a class that is made by its name with keywords ks behind n values -/
structure MakK (P : Program) (w : World) (K : PySem.W.Frag) (mg : Str → Option Value) (base : Heap) (CX : CXT) (k : Nat) (x : Str) (C : Addr) (sp : Sp) (n : Nat) (ks : List Str) (gV : List V → List V → List V) : Prop where
  ex : ∃ (f : Addr) (fd : FuncData) (ps : List Str) (g : List Value → List Value → List Value), Mk K C f ∧ Fn P w K mg base CX k f fd ps sp ∧ mg x = some (.ref C) ∧ KBn K fd ps (n + 1) ks g gV
def tMkK (C : Addr) (n m : Nat) (sp : Sp) (gV : List V → List V → List V) (E : XK) (t tk : TA) : TE := fun σ H Q => t σ H fun vs H1 => tk σ H1 fun zs H2 => vs.length = n ∧ zs.length = m ∧ ∀ x dx, H2 x = none → H2 dx = none → dx ≠ x →
  sp (gV (.ref x :: vs) zs) (upd (upd H2 dx (.own x)) x (.ins C dx [])) (fun v H3 => v = .non ∧ Q (.ref x) H3) E
theorem Fn.madeK {pins : List (Addr × Obj)} {σ : L2.St} {H : Hp} {s : Shared} {Q : VK} {us ws : List Value} {vs zs : List V} {CX : CXT} (M : Mk X.K C f) (F : Fn X.prog X.w X.K X.mg X.base CX k f fd ps sp) (gd : X.A.guards = some []) (hr : Room (k + 1) X.A)
    (hb : KBn X.K fd ps (n + 1) ks g gV) (hx : Passes CX X E) (I : Inv X pins σ H s) (r : Vals vs us) (rz : Vals zs ws) (l1 : vs.length = n) (l2 : zs.length = ks.length)
    (h : ∀ x dx, H x = none → H dx = none → dx ≠ x → sp (gV (.ref x :: vs) zs) (upd (upd H dx (.own x)) x (.ins C dx [])) (fun v H2 => v = .non ∧ Q (.ref x) H2) E) :
    wpAny (model X.prog X.w) X.A (call (.ref C) us (ks.zip ws)) (EP X pins σ Q) X.xe s := by
  have f0 : H s.heap.objs.size = none := I.hok.fresh (Nat.le_refl _)
  have f1 : H (s.heap.objs.size + 1) = none := I.hok.fresh (Nat.le_succ _)
  have h1 := h _ _ f1 f0 (Nat.ne_of_lt (Nat.lt_succ_self _))
  have I1 := Inv.made (C := C) I
  have r1 : Vals (V.ref (s.heap.objs.size + 1) :: vs) (Value.ref (s.heap.objs.size + 1) :: us) := .cons rfl r
  have n1 : (Value.ref (s.heap.objs.size + 1) :: us).length = n + 1 := by
    rw [← r1.length, List.length_cons, l1]
  have b1 := hb.to _ _ ws I1.kIn n1 (by rw [← rz.length]; exact l2)
  have g1 : (X.A.under (.builtin "type.__call__" ⟨.ref C :: us, ks.zip ws⟩)).guards = some [] := by
    unfold Around.under
    simp only [gd]
    first | rfl | simp [pushGuards, Code.guards, Code.isGuard, guardIds]
  refine wpAny_call (make_map (f := f) I.kIn M.makes M.init (beq_iff_eq.mp M.fn) (codeAny_mono (F.go _ _ _ _ _ _ _ _ E g1 (hr.make C us (ks.zip ws)) (I1.env0.make C us (ks.zip ws)) b1 (hb.rel r1 rz) h1) ?_))
  intro res s' hq
  rcases res with e | fl
  · exact hx _ _ _ _ _ _ I1 hq
  · cases fl
    case ret u =>
      obtain ⟨v, H', I2, rv, ev, q2⟩ := I1.after hq
      subst ev
      exact ⟨rv, ⟨V.ref (s.heap.objs.size + 1), H', I2, rfl, q2⟩⟩
    all_goals exact hq.elim
variable {CX : CXT} {j : Nat} {p pos : Pos} {e : Expr} {es : List Expr} {kws : List Keyword} {t tk : TA}
theorem emkK (c : MakK X.prog X.w X.K X.mg X.base CX k x C sp n ks gV) (gd : X.A.guards = some []) (hr : Room j X.A) (hk : k + 1 ≤ j) (hx : Passes CX X E) (hg : Gl X x) (ha : PA X (e :: es) t) (hkw : PK X kws tk)
    (hall : (backToKw pos (keywordEach kws X.env)).all (·.1.isSome) = true := by rfl) (hks : (backToKw pos (keywordEach kws X.env)).filterMap (·.1) = ks := by rfl) (hdb : (x == ("__debug__" : Str)) = false := by decide)
    (he : starEach (e :: es) X.env = (false, eval e X.env) :: starEach es X.env := by rfl) (hpl : ((backTo pos (starEach (e :: es) X.env)).any (·.1) || (backToKw pos (keywordEach kws X.env)).any (·.1.isNone)) = false := by rfl) :
    PE X (.Call (.Name x p) (e :: es) kws pos) (tMkK C n ks.length sp gV E t tk) := by
  obtain ⟨f, fd, ps, g, M, F, hm, b⟩ := c.ex
  constructor
  intro pins s σ H Q I h
  apply wpAny_Call_Name_kw
  refine ld_glob I hg hm ?_ hdb
  refine PySem.W.callWith_KW (h₀ := X.base) I.ok.mod.kin M.kp hall (thn (ha.run pos pins s σ H _ I h) ?_) hpl he
  rintro us s1 ⟨vs, H1, I1, r, q⟩
  refine thn (hkw.run pos pins s1 σ H1 _ I1 q) ?_
  rintro ws s2 ⟨zs, H2, I2, rz, l1, l2, q2⟩
  refine ⟨I2.kIn, ?_⟩
  rw [hks]
  exact F.madeK M gd (hr.mono hk) b hx I2 r rz l1 l2 q2
end
/-- an __init__ that is called with keywords ks behind n values -/
structure MdK (K : PySem.W.Frag) (C : Addr) (qual : Str) (st : Stmt) (ps : List Str) (n : Nat) (ks : List Str) (gV : List V → List V → List V) : Prop where
  ex : ∃ (f : Addr) (fd : FuncData) (g : List Value → List Value → List Value), L2.Fun K "__init__" qual st f fd ∧ Meth K C "__init__" f ∧ KBn K fd ps (n + 1) ks g gV
theorem MdK.makK {P : Program} {w : World} {K : PySem.W.Frag} {mg : Str → Option Value} {base : Heap} {k n : Nat} {x qual : Str} {st : Stmt} {N ps ks : List Str} {sp : Sp} {C : Addr} {gV : List V → List V → List V}
    (D : MdK K C qual st ps n ks gV) (hm : mg x = some (.ref C)) (M : ∀ f, Meth K C "__init__" f → Mk K C f) (S : FnScope N ps (defScope st)) (many : ∀ vs H Q E, sp vs H Q E → vs.length = ps.length)
    (body : ∀ (f : Addr) (cdv : Value) (A : Around) (outer : List Env) (s : Shared) (H : Hp) (vs : List V) (Q : VK) (E : XK), A.guards = some [] → Room k (A.deeper (envOfC qual (defScope st) s.heap.objs.size f cdv)) → sp vs H Q E →
      ∃ t, PSs (cxOf CX0 P w K mg base N qual (defScope st) f cdv A outer s H E).nox (defBody st) t ∧ t { nx := fun _ H' => Q .non H', rt := Q } (start N vs) H) : MakK P w K mg base CX0 (k + 1) x C sp n ks gV := by
  obtain ⟨f, fd, g, F, me, b⟩ := D.ex
  refine ⟨f, fd, ps, g, M f me, fnG F S many (fun cdv A outer s H vs Q E gd hr h => ?_), hm, b⟩
  obtain ⟨t, ht, q⟩ := body f cdv A outer s H vs Q E gd hr h
  exact ⟨t, ht.nox, q⟩
theorem genS_one {env : Env} {scope : Scope} {x : Str} (h : (scope.kind == .function && !scope.isCoroutine && scope.names.all (fun y => y.2 == .local) && (scope.names.lookup (".0" : Str) == some NameKind.local) && (scope.names.lookup x == some NameKind.local)) = true) : GxR.GenS env scope x := by
  simp only [Bool.and_eq_true] at h
  obtain ⟨⟨⟨⟨h1, h2⟩, h3⟩, h4⟩, h5⟩ := h
  have loc : ∀ y ∈ scope.names, y.2 = .local := fun y hy => eq_of_beq (List.all_eq_true.mp h3 y hy)
  exact ⟨eq_of_beq h1, by simpa using h2, fun y hy z => (by rw [loc y hy] at z; cases z), eq_of_beq h4, eq_of_beq h5, fun y hy z => (by rw [loc y hy] at z; cases z)⟩
/-! ### the table aside -/
def TbS (P : Addr) (H H' : Hp) : Prop := GxR.TabG H' P ∧ Ex (mask P H) (mask P H')
section
variable {P a : Addr} {H H' H1 H2 : Hp} {o : HO}
theorem TbS.refl (h : GxR.TabG H P) : TbS P H H := ⟨h, Ex.refl _⟩
theorem TbS.trans (h : TbS P H H1) (h' : TbS P H1 H2) : TbS P H H2 := ⟨h'.1, h.2.trans h'.2⟩
theorem tab_ex (h : GxR.TabG H P) (e : Ex H H') : GxR.TabG H' P := let ⟨ps, h1, h2⟩ := h; ⟨ps, e _ _ h1, h2⟩
theorem TbS.pure (h : GxR.TabG H P) (e : Ex H H') : TbS P H H' := ⟨tab_ex h e, mask_ex e⟩
theorem TbS.of (h : GxR.Tabbed P H H') : TbS P H H' := ⟨h.1, fun b u e => by
  by_cases hb : b = P
  · rw [hb, mask_self] at e
    cases e
  · rw [mask_at hb] at e ⊢
    rw [h.2 b hb]
    exact e⟩
theorem TbS.at (h : TbS P H H') (n : a ≠ P) (e : H a = some o) : H' a = some o := by
  have := h.2 a o (by rw [mask_at n]; exact e)
  rwa [mask_at n] at this
theorem TbS.ne (h : GxR.TabG H P) (e : H a = some o) (ho : ∀ ps, o ≠ .tbl ps) : a ≠ P := fun z => by
  obtain ⟨ps, h1, _⟩ := h
  rw [z, h1] at e
  exact ho ps (Option.some.inj e).symm
theorem TbS.free (h : TbS P H H') (hT : GxR.TabG H P) (e : H' a = none) : H a = none := by
  cases q : H a with
  | none => rfl
  | some u =>
    by_cases n : a = P
    · obtain ⟨ps, h1, _⟩ := h.1
      rw [n, h1] at e
      cases e
    · rw [h.at n q] at e
      cases e
theorem TbS.new (h : GxR.TabG H P) (e : H a = none) : TbS P H (L2.upd H a o) := .pure h (Ex.new e)
theorem tups_tb {xs : List V} {rs : List (List V)} (h : Tups H xs rs) (hT : GxR.TabG H P) (t : TbS P H H') : Tups H' xs rs := ⟨h.1, fun i r hr => let ⟨u, h1, h2⟩ := h.2 i r hr; ⟨u, h1, t.at (TbS.ne hT h2 fun _ z => nomatch z) h2⟩⟩
end
theorem TbS.mut {P x : Addr} {H0 H : Hp} {o : HO} (h : TbS P H0 H) (h0 : H0 x = none) (n : x ≠ P) : TbS P H0 (L2.upd H x o) := by
  refine ⟨?_, fun b u hb => ?_⟩
  · obtain ⟨ps, p1, p2⟩ := h.1
    exact ⟨ps, by rw [upd_ne (Ne.symm n)]; exact p1, p2⟩
  · have := h.2 b u hb
    by_cases hbp : b = P
    · rw [hbp, mask_self] at hb
      cases hb
    · rw [mask_at hbp] at hb this ⊢
      rw [upd_ne (fun z => by rw [z, h0] at hb; cases hb)]
      exact this
/-- all but tables is kept -/
def Kp (H H' : Hp) : Prop := ∀ a o, H a = some o → (∀ ps, o ≠ .tbl ps) → H' a = some o
theorem Kp.of {H H' : Hp} (e : Ex H H') : Kp H H' := fun a o h _ => e a o h
theorem TbS.kp {P : Addr} {H H' : Hp} (t : TbS P H H') (hT : GxR.TabG H P) : Kp H H' := fun a o h n => t.at (TbS.ne hT h n) h
theorem sql_kp {K : PySem.W.Frag} {H H' : Hp} {a : Addr} {xs : List V} (h : SqL K H a xs) (k : Kp H H') : SqL K H' a xs := by
  rcases h with (h | ⟨o, h⟩) | h
  · exact .inl (.inl (k _ _ h fun _ z => nomatch z))
  · exact .inl (.inr ⟨o, k _ _ h fun _ z => nomatch z⟩)
  · exact .inr h
theorem sqt_kp {K : PySem.W.Frag} {H H' : Hp} {a : Addr} {xs : List V} (h : SqT K H a xs) (k : Kp H H') : SqT K H' a xs := by
  rcases h with (h | ⟨o, h⟩) | h
  · exact .inl (.inl (k _ _ h fun _ z => nomatch z))
  · exact .inl (.inr ⟨o, k _ _ h fun _ z => nomatch z⟩)
  · exact .inr h
mutual
theorem dp_kp {K : PySem.W.Frag} {H H' : Hp} (k : Kp H H') : ∀ (d : PyData) (v : V), Dp K H v d → Dp K H' v d
  | .none, _, h => by cases h; exact .non
  | .bool b, _, h => by cases h; exact .bl b
  | .int i, _, h => by cases h; exact .int i
  | .str x, _, h => by cases h; exact .str x
  | .list ds, _, h => by
    cases h with
    | lst h1 h2 => exact .lst (sql_kp h1 k) (dps_kp k ds _ h2)
  | .tuple ds, _, h => by
    cases h with
    | tup h1 h2 => exact .tup (sqt_kp h1 k) (dps_kp k ds _ h2)
  | .dict _, _, h => by cases h
theorem dps_kp {K : PySem.W.Frag} {H H' : Hp} (k : Kp H H') : ∀ (ds : List PyData) (vs : List V), DpAll K H vs ds → DpAll K H' vs ds
  | [], _, h => by cases h; exact .nil
  | d :: ds, _, h => by
    cases h with
    | cons h1 h2 => exact .cons (dp_kp k d _ h1) (dps_kp k ds _ h2)
end
section
variable {K : PySem.W.Frag} {σ : L2.St} {H : Hp} {D : Ends} {tz : TS} {sp : Sp} {E : XK} {ta : TA} {vs : List V}
theorem q_clA {i : Nat} (h : EvA ta σ H vs) (k : ∀ H1, Ex H H1 → sp vs H1 (fun v H2 => tz D (σ.set i (some v)) H2) E) : tSeq (tAsg (tCl sp E ta) (gName i)) tz D σ H := h H (Ex.refl _) _ k
theorem ev_maxF {te : TE} {ns : List Int} {m : Int} (h : EvL te σ H (ns.map V.int)) (hp : 0 < ns.length) (hm : m ∈ ns) (ha : ∀ y ∈ ns, y ≤ m) : Ev (tCB (rMax K) (tCons te tNil)) σ H (.int m) := fun H1 e Q q =>
  h H1 e _ fun p H2 p0 e2 hp2 => ⟨p, ns, rfl, sq_of hp2, hp, fun x hx hmax => by
    rw [Int.le_antisymm (ha x hx) (hmax m hm)]
    exact q H2 e2⟩
end
section
variable {K : PySem.W.Frag} {b : Addr × Addr} {σ : L2.St} {H : Hp}
/-- [e for .. in range(n)], e draws -/
theorem x_lcRD {n : Int} {ta : TA} {te : TE} {j : Nat} {vs : List Nat} {P : V → Prop} (hb : Bag H b) (h : EvA ta σ H [.int n]) (hn : 0 ≤ n ∧ n ≤ 1000)
    (hw : ∀ x, wipe ((wipe σ vs).set j (some x)) vs = wipe σ vs) (he : ∀ i H1, Step b H H1 → 0 ≤ i → i < n → Dr b te ((wipe σ vs).set j (some (.int i))) H1 P) :
    ∀ Q : VK, (∀ (l : Addr) (xs : List V) (H2 : Hp), Step b H H2 → H l = none → H2 l = some (.lst xs) → xs.length = n.toNat → (∀ v ∈ xs, P v) → Q (.ref l) H2) → tLc (iRng1 ta) (gName j) tYes te vs σ H Q := fun Q k => by
  refine h H (Ex.refl _) _ fun H1 e1 => ⟨n, rfl, by omega, by omega, fun D hD => ?_⟩
  have hb1 := hb.ex e1
  have hD0 := fresh_back e1 hD
  refine lc_range (lo := 0) (n := n.toNat) (fun i H2 => ∃ xs : List V, H2 D = some (.lst xs) ∧ Step b H H2 ∧ xs.length = i ∧ ∀ v ∈ xs, P v) ⟨[], upd_same, .pure hb (e1.trans (Ex.new hD)), rfl, fun _ h => by cases h⟩ ?_ ?_
  · rintro i H2 hi2 ⟨xs, g1, g2, g3, g4⟩
    refine ⟨hw _, ?_⟩
    refine (yes_ok : EvT tYes _ _ true) _ (Ex.refl _) _ fun H3 e3 => ?_
    rw [if_pos rfl]
    have s3 := g2.trans (.pure g2.1 e3)
    refine he _ H3 s3 (by omega) (by omega) H3 (.refl s3.1) _ fun v H4 s4 pv => ?_
    have nD := hb.ne hD0
    have g1' := s4.at nD (e3 _ _ g1)
    refine ⟨xs, g1', sz_lt (by omega), xs ++ [v], upd_same, (s3.trans s4).put hb hD0, by rw [List.length_append, g3]; rfl, fun x hx => ?_⟩
    rcases List.mem_append.mp hx with hx | hx
    · exact g4 x hx
    · rw [List.mem_singleton.mp hx]
      exact pv
  · rintro H2 ⟨xs, g1, g2, g3, g4⟩
    exact k D xs H2 g2 hD0 g1 g3 g4
theorem dr_ev {te : TE} {v : V} {P : V → Prop} (h : ∀ H1, Ev te σ H1 v) (hp : P v) : Dr b te σ H P := fun H1 s Q k => h H1 H1 (Ex.refl _) Q fun H2 e => k v H2 (.pure s.1 e) hp
theorem dr_eqI {ta : TE} {p : Int → Prop} {c : Int} (h : DrI b ta σ H p) : Dr b (tOp rEq ta (tC (.int c))) σ H (fun v => ∃ k, v = .bl k) := fun H1 s Q k => h H1 s _ fun i H2 s2 pi => ⟨rfl, k _ H2 s2 ⟨_, rfl⟩⟩
theorem tany_dr {te : TE} (hb : Bag H b) (h : Dr b te σ H (fun v => ∃ k, v = .bl k)) : TAny (Step b) (tB te) σ H := fun Q q => h H (.refl hb) _ fun v H2 s2 ⟨c, e⟩ => ⟨c, e, q c H2 s2⟩
end
def spLawT (K : PySem.W.Frag) (pT : Addr) : Sp := fun vs H Q _ => ∃ (a : Addr) (ns : List Int), vs = [.ref a] ∧ GxR.TabG H pT ∧ SqL K H a (ns.map V.int) ∧ ns.length ≤ 63 ∧ ∀ H', Q (.bl true) H'
end Lf
end
section
set_option Elab.async false
set_option linter.all false
set_option maxRecDepth 100000
set_option maxHeartbeats 4000000
/-! Lv: enumerate over a tuple. -/
namespace Lf
open PySem PySem.Spec PyProof.Rows L2
open Evl
theorem meets_enum1 {v : Value} {ob : Obj} {W : Heap → Prop} (B : Begins v ob W) :
    Meets (Builtin.«enumerate.__new__» ⟨[.type "enumerate", v], []⟩) (fun _ R s => W s.heap ∧
      R (.ok (.ret (.ref (s.heap.push ob).objs.size))) { s with heap := (s.heap.push ob).push { cls := .type "enumerate", data := .fields #[.none, .bool false, .ref s.heap.objs.size, rawInt 0, .none, .none] } }) :=
  .of_wp fun prog w A R s hh => by
    obtain ⟨hp, gs, dr, tk, os⟩ := s
    obtain ⟨hw, hR⟩ := hh
    have hsub := sub_enumerate
    have step1 : ∀ {A' : Around} {E : Value → Shared → Prop} {Q : Value → Shared → Prop}, Q (.ref hp.objs.size) ⟨hp.push ob, gs, dr, tk, os⟩ → wpAny (model prog w) A' (pyIter v) Q E ⟨hp, gs, dr, tk, os⟩ :=
      fun q => B.iter prog w _ _ ⟨hp, gs, dr, tk, os⟩ _ hw q
    wp_walk using step1
    refine wpAny_stack_any fun sk => wpAny_pure ?_
    split
    · rename_i cc _ _ _ _ _
      cases (cc == Value.type "enumerate") <;> (wp_walk using step1; exact ⟨_, rfl, hR⟩)
    · wp_walk using step1
      exact ⟨_, rfl, hR⟩
theorem call_enum1 {prog : Program} {w : World} {A : Around} {E : Value → Shared → Prop} {s : Shared} {v : Value} {ob : Obj} {W : Heap → Prop} {Q : Value → Shared → Prop} (B : Begins v ob W) (hw : W s.heap)
    (h : ∀ h', IsEnum h' (s.heap.objs.size + 1) s.heap.objs.size ((0 : Nat) : Int) .none → h'.get? s.heap.objs.size = some ob → h'.objs.size = s.heap.objs.size + 2 →
      (∀ b o, s.heap.get? b = some o → h'.get? b = some o) → Q (.ref (s.heap.objs.size + 1)) { s with heap := h' }) :
    wpAny (model prog w) A (call (.type "enumerate") [v]) Q E s := by
  refine callType_new F.called_enumerate (by decide) (F.typeCall_enumerate_1 _) (F.newCall_enumerate_1 _) (fun obj => F.args_object_init_2 obj _) F.entry_enumerate_new (meets_enum1 B) ⟨hw, ?_⟩
  have hz : (s.heap.push ob).objs.size = s.heap.objs.size + 1 := Heap.size_push ..
  show _ ∧ _
  rw [hz]
  have he := Heap.get?_push_size (s.heap.push ob) (o := { cls := .type "enumerate", data := .fields #[.none, .bool false, .ref s.heap.objs.size, rawInt 0, .none, .none] }) rfl
  rw [hz] at he
  exact ⟨⟨_, he, rfl⟩, h _ he (Heap.get?_push_of_some _ (Heap.get?_push_size _ B.free)) (by rw [Heap.size_push, hz]) fun b o x => Heap.get?_push_of_some _ (Heap.get?_push_of_some _ x)⟩
/-- the tuple at a, walked with the count -/
def ItE (K : PySem.W.Frag) (a : Addr) : It :=
  ⟨fun i H => ∃ (xs : List V) (x : V), SqT K H a xs ∧ xs[i]? = some x, fun i H v H' => ∃ T x, v = .ref T ∧ H T = none ∧ H' = upd H T (.tup [.int (i : Nat), x]) ∧ ∀ xs, SqT K H a xs → xs[i]? = some x, fun i H => ∃ xs : List V, SqT K H a xs ∧ xs.length = i⟩
section
variable {P : Program} {w : World} {K : PySem.W.Frag}
theorem turn_enumT {elts : List Expr} {kk : Nat} {tpos : Pos} (a e it : Addr) :
    Turn P w K (.Tuple elts kk tpos) (ItE K a) [e, it] e (fun i h => (∃ old, IsEnum h e it ((i : Nat) : Int) old) ∧ h.IsTupleIter it a i ∧ e ≠ it ∧ a ≠ it ∧ a ≠ e) where
  mem := by simp
  obj := fun i h st b hb => by
    obtain ⟨⟨old, he⟩, ⟨o, ho, hc, hd⟩, _⟩ := st
    rcases (show b = e ∨ b = it by simpa using hb) with z | z
    · exact ⟨_, z ▸ he, fun v q => by cases q⟩
    · exact ⟨o, z ▸ ho, fun v q => by rw [hd] at q; cases q⟩
  keep := fun i h h' st k => ⟨st.1.imp fun old he => k e (by simp) _ he, st.2.1.at fun o q => k it (by simp) o q, st.2.2⟩
  item := by
    intro X h1 h2 h3 hc i pins s σ H E J ff st go
    subst h1 h2 h3
    obtain ⟨⟨old, en⟩, hit, hne, na, ne'⟩ := st
    obtain ⟨xs, x, hq, hx⟩ := go
    obtain ⟨its, rv, pl, _⟩ := J.tuple hq
    obtain ⟨u, hu, ru'⟩ := rv.get hx
    have lts : i < its.toArray.size := by rw [List.size_toArray]; exact (List.getElem?_eq_some_iff.mp hu).1
    have le_ : e < s.heap.objs.size := Heap.lt_size en
    have li_ : it < s.heap.objs.size := let ⟨_, q, _⟩ := hit; Heap.lt_size q
    refine wpAny_pyNext_enum_itemC (Draws.tuple (show X.A.in1.handled = none from J.ok.hd hc) it a na its.toArray) en ⟨hit, pl⟩ lts hne (fun z => ?_) fun y h' tk hy ho hst hT hsz hk => ?_
    · rcases (show e = it ∨ e = a by simpa using z) with z | z
      · exact hne z
      · exact ne' z.symm
    · obtain rfl : y = u := by
        rw [show its.toArray[i]? = some u by simpa using hu] at hy
        exact (Option.some.inj hy).symm
      refine ⟨_, rfl, wpAny_letOwnedTupleGo_enum (s := { s with heap := h', toks := tk + 1 }) ho fun h2 he2 sb => ?_⟩
      have tup2 := (sb.2 _ (Nat.ne_of_gt le_)).trans hT
      have fresh : ObjOk X.prog X.w (upd H s.heap.objs.size (.tup [.int (i : Nat), x])) h2 s.heap.objs.size (.tup [.int (i : Nat), x]) :=
        ⟨by show 2 ≤ sizeLine; decide, [.int i tk, y], .cons ⟨_, rfl⟩ (.cons ru' .nil), ⟨_, tup2, rfl, _, rfl⟩⟩
      have kept2 : ∀ b ob, b ∉ [e, it] → s.heap.get? b = some ob → h2.get? b = some ob := fun b ob hb q => (sb.2 b (fun z => hb (by simp [z]))).trans (hk b ob (fun z => hb (by simp [z])) (fun z => hb (by simp [z])) q)
      have J2 := J.turnedNew (ch := [e, it]) (t' := tk + 1) kept2 ff (Nat.le_refl _) fresh
      refine ⟨.ref s.heap.objs.size, _, J2, rfl, ⟨_, x, rfl, J.hok.fresh (Nat.le_refl _), rfl, fun ys hy => by rw [J.tuple_inj hy hq, hx]⟩, ⟨⟨y, he2⟩, hst.1.at fun o q => (sb.2 it (Ne.symm hne)).trans q, hne, na, ne'⟩, fun b hb => ?_⟩
      have lb : b < s.heap.objs.size := by
        rcases (show b = e ∨ b = it by simpa using hb) with z | z
        · exact z ▸ le_
        · exact z ▸ li_
      exact (upd_ne (Nat.ne_of_lt lb)).trans (ff b hb).1
  done := by
    intro X h1 h2 h3 hc i pins s σ H E J ff st go
    subst h1 h2 h3
    obtain ⟨⟨old, en⟩, hit, hne, na, ne'⟩ := st
    obtain ⟨xs, hq, hx⟩ := go
    obtain ⟨its, rv, pl, _⟩ := J.tuple hq
    obtain ⟨f0, f1, f2, f3, f4, f5⟩ := ff it (by simp)
    have hl := rv.length
    obtain rfl : i = its.toArray.size := by rw [List.size_toArray, ← hl, hx]
    exact wpAny_pyNext_enum_endD (Draws.tuple (show X.A.in1.handled = none from J.ok.hd hc) it a na its.toArray) en ⟨hit, pl⟩ fun h' eb => ⟨rfl, J.turned (t' := s.toks) (fun b o hb q => eb b o hb q) f0 f1 f3 f4 f5⟩
  self := fun A i s Q E st h => let ⟨⟨_, en⟩, _⟩ := st; wpAny_pyIter_enum en h
def iEnT (K : PySem.W.Frag) (ta : TA) : TI := fun σ H R => ta σ H fun vs H1 => ∃ a xs, vs = [.ref a] ∧ SqT K H1 a xs ∧ R (ItE K a) H1
theorem pi_enumT {X : Cx} {e : Expr} {ta : TA} {p pos tpos : Pos} {elts : List Expr} {kk : Nat} (k : X.K = K) (hg : Gl X "enumerate") (hm : X.mg "enumerate" = none) (ha : PA X [e] ta) (hs : starEach [e] X.env = [(false, eval e X.env)] := by rfl) :
    PI X (.Tuple elts kk tpos) (.Call (.Name "enumerate" p) [e] [] pos) (iEnT K ta) := by
  subst k
  constructor
  intro pins s σ H R J h
  refine Call_ (ld_blt J hg hm boot_enumerate (PyProof.Rows.callWith_type1 (thn (ha.run pos pins s σ H _ J h) ?_) hs rfl))
  rintro us s1 ⟨vs, H1, J1, r1, a, xs, rfl, hq, q⟩
  cases r1 with
  | cons r rr =>
    cases rr
    cases r
    obtain ⟨its, rv, pl, _⟩ := J1.tuple hq
    obtain ⟨oa, aa, _⟩ := id pl
    have la : a < s1.heap.objs.size := Heap.lt_size aa
    refine call_enum1 (begins_tuple a its.toArray) pl fun h' en hit hsz hk => wpAny_pyIter_enum en ?_
    have J2 : Inv X pins σ H1 { s1 with heap := h' } := J1.kept (t' := s1.toks) hk
    refine ⟨s1.heap.objs.size + 1, [s1.heap.objs.size + 1, s1.heap.objs.size], _, _, H1, rfl, J2, turn_enumT a (s1.heap.objs.size + 1) s1.heap.objs.size, ⟨⟨.none, en⟩, ⟨_, hit, rfl, rfl⟩, Nat.succ_ne_self _, Nat.ne_of_lt la, Nat.ne_of_lt (Nat.lt_succ_of_lt la)⟩, fun b hb => ?_, q⟩
    have up : s1.heap.objs.size ≤ b := by
      rcases (show b = s1.heap.objs.size + 1 ∨ b = s1.heap.objs.size by simpa using hb) with z | z
      · exact z ▸ Nat.le_succ _
      · exact z ▸ Nat.le_refl _
    exact J1.fpOk up (J1.hok.fresh up)
section
variable {K : PySem.W.Frag} {σ : L2.St} {H : Hp} {te : TE} {D : Ends} {tz : TS}
/-- for i, x in enumerate(a tuple that is just made) by an invariant -/
theorem q_forET {ys : List V} {tu : TS} {j1 j2 : Nat} (h : EvU te σ H ys) (Pv : Addr → Nat → L2.St → Hp → Prop) (h0 : ∀ a H1, H a = none → Ex H H1 → H1 a = some (.tup ys) → Pv a 0 σ H1) (hl : ∀ a i σ' H', Pv a i σ' H' → SqT K H' a ys)
    (st : ∀ a i σ' H' T o, Pv a i σ' H' → H' T = none → Pv a i σ' (upd H' T o))
    (hs : ∀ a (i : Nat) x σ' H', ys[i]? = some x → Pv a i σ' H' → tu { D with nx := Pv a (i + 1), ct := Pv a (i + 1), bk := tz D } ((σ'.set j1 (some (.int (i : Int)))).set j2 (some x)) H') (hd : ∀ a σ' H', Pv a ys.length σ' H' → tz D σ' H') :
    tSeq (tFor (iEnT K (tCons te tNil)) (gTup K 2 (gCons (gName j1) (gCons (gName j2) gNil))) tu) tz D σ H := by
  refine h H (Ex.refl H) _ fun a H1 a0 e ha => ⟨a, ys, rfl, st_of ha, ?_⟩
  refine ⟨fun i m σ' H' => m = ys.length - i ∧ i ≤ ys.length ∧ Pv a i σ' H', ⟨ys.length, by simp, Nat.zero_le _, h0 a H1 a0 e ha⟩, ?_⟩
  rintro i m σ' H' ⟨rfl, hi, p⟩
  have hq := hl a i σ' H' p
  by_cases hlt : i < ys.length
  · have gy : ys[i]? = some ys[i] := List.getElem?_eq_getElem hlt
    refine .inr ⟨⟨ys, _, hq, gy⟩, Pv a (i + 1), fun σ2 H2 p2 => ⟨ys.length - (i + 1), by omega, rfl, hlt, p2⟩, ?_⟩
    rintro z H2 ⟨T, x, rfl, hT, rfl, fx⟩
    have ex := Option.some.inj ((fx _ hq).symm.trans gy)
    subst ex
    exact ⟨T, _, rfl, .inl (.inl upd_same), rfl, _, _, rfl, _, _, rfl, rfl, hs a i _ σ' _ gy (st a _ _ _ _ _ p hT)⟩
  · have e1 : ys.length = i := by omega
    subst e1
    exact .inl ⟨⟨ys, hq, rfl⟩, hd a _ _ p⟩
end
end
/-- a op1 b op2 c op3 d, as a test -/
def tChain3 (r1 r2 r3 : R2) (ta tb tc td : TE) : TT := fun σ H Q => ta σ H fun x H1 => tb σ H1 fun y H2 => r1 x y H2 fun z H3 => ∃ k, z = .bl k ∧
  if k = true then tc σ H3 fun y2 H4 => r2 y y2 H4 fun z2 H5 => ∃ k2, z2 = .bl k2 ∧ if k2 = true then td σ H5 fun y3 H6 => r3 y2 y3 H6 fun z3 H7 => ∃ k3, z3 = .bl k3 ∧ Q k3 H7 else Q false H5 else Q false H3
theorem pt_chain3 {X : Cx} {a b c d : Expr} {ta tb tc td : TE} {pos : Pos} {op1 op2 op3 : CmpOp} {r1 r2 r3 : R2} (h1 : OpR X (compareOp op1) r1) (h2 : OpR X (compareOp op2) r2) (h3 : OpR X (compareOp op3) r3) (ha : PE X a ta) (hb : PE X b tb) (hc : PE X c tc) (hd : PE X d td)
    (hm : lastMarks [op1, op2, op3] [b, c, d] = false := by with_unfolding_all rfl) : PT X (.Compare a [op1, op2, op3] [b, c, d] pos) (tChain3 r1 r2 r3 ta tb tc td) := by
  constructor
  intro pins s σ H Q I h
  refine isTrue_chain (thn (ha.run pins s σ H _ I h) ?_) hm
  rintro v s1 ⟨x, H1, I1, rx, q1⟩
  refine test_link (thn (hb.run pins s1 σ H1 _ I1 q1) ?_)
  rintro u s2 ⟨y, H2, I2, ry, q2⟩
  refine thn (h1 pins s2 σ H2 x y v u _ I2 rx ry q2) ?_
  rintro d1 s3 ⟨z, H3, I3, rz, k, rfl, q3⟩
  cases rz
  refine wpAny_truthy_bool ?_
  cases k with
  | false => exact ite_ff ⟨H3, I3, q3⟩
  | true =>
    refine ite_tt (test_link (thn (hc.run pins s3 σ H3 _ I3 q3) ?_))
    rintro u2 s4 ⟨y2, H4, I4, ry2, q4⟩
    refine thn (h2 pins s4 σ H4 y y2 u u2 _ I4 ry ry2 q4) ?_
    rintro d2 s5 ⟨z2, H5, I5, rz2, k2, rfl, q5⟩
    cases rz2
    refine wpAny_truthy_bool ?_
    cases k2 with
    | false => exact ite_ff ⟨H5, I5, q5⟩
    | true =>
      refine ite_tt (test_last (thn (hd.run pins s5 σ H5 _ I5 q5) ?_))
      rintro u3 s6 ⟨y3, H6, I6, ry3, q6⟩
      refine thn (h3 pins s6 σ H6 y2 y3 u2 u3 _ I6 ry2 ry3 q6) ?_
      rintro d3 s7 ⟨z3, H7, I7, rz3, k3, rfl, q7⟩
      cases rz3
      exact wpAny_truthy_bool ⟨H7, I7, q7⟩
theorem et_chain3 {σ : L2.St} {H : Hp} {r1 r2 r3 : R2} {ta tb tc td : TE} {x y z w : V} (h1 : Ev ta σ H x) (h2 : Ev tb σ H y) (h3 : Ev tc σ H z) (h4 : Ev td σ H w) (c1 : RV r1 x y H (.bl true)) (c2 : RV r2 y z H (.bl true)) {k : Bool} (c3 : RV r3 z w H (.bl k)) : EvT (tChain3 r1 r2 r3 ta tb tc td) σ H k := fun G0 e Q q =>
  h1 G0 e _ fun G1 e1 => h2 G1 (e.trans e1) _ fun G2 e2 => c1 G2 ((e.trans e1).trans e2) _ fun G3 e3 => ⟨true, rfl, h3 G3 (((e.trans e1).trans e2).trans e3) _ fun G4 e4 => c2 G4 ((((e.trans e1).trans e2).trans e3).trans e4) _ fun G5 e5 => ⟨true, rfl, h4 G5 (((((e.trans e1).trans e2).trans e3).trans e4).trans e5) _ fun G6 e6 => c3 G6 ((((((e.trans e1).trans e2).trans e3).trans e4).trans e5).trans e6) _ fun G7 e7 => ⟨k, rfl, q G7 ((((((e1.trans e2).trans e3).trans e4).trans e5).trans e6).trans e7)⟩⟩⟩
end Lf
end
section
set_option Elab.async false
set_option linter.all false
set_option maxRecDepth 100000
set_option maxHeartbeats 4000000
/-! the mathematics of distances: which places come to be reached, step by step -/
namespace Wm
open PySem PySem.Spec PyProof.Rows L2 Lf
open Evl
def rch (ps : PS) (al : List Nat) : Nat → Nat → Bool
  | 0, p => decide (p = 0)
  | k + 1, p => decide (p ∈ al) && (rowOf ps p).any fun q => rch ps al k q
def dist (ps : PS) (al : List Nat) (s p : Nat) : Option Nat := (List.range s).find? fun k => rch ps al k p
def edgeAt (ps : PS) (al : List Nat) : Nat → List Nat
  | 0 => [0]
  | s + 1 => al.filter fun p => (dist ps al (s + 1) p).isNone && (rowOf ps p).any fun x => decide (x ∈ edgeAt ps al s)
def far (m : Nat) (ps : PS) (al : List Nat) (p : Nat) : Option Nat := dist ps al m p
section
variable {ps : PS} {al : List Nat}
theorem rch_succ {k p : Nat} : rch ps al (k + 1) p = true ↔ p ∈ al ∧ ∃ q, q ∈ rowOf ps p ∧ rch ps al k q = true := by
  show (decide (p ∈ al) && (rowOf ps p).any fun q => rch ps al k q) = true ↔ _
  rw [Bool.and_eq_true, decide_eq_true_eq, List.any_eq_true]
theorem dist_none {s p : Nat} : dist ps al s p = none ↔ ∀ k, k < s → rch ps al k p = false := by
  unfold dist
  rw [List.find?_eq_none]
  constructor
  · intro h k hk
    have := h k (List.mem_range.mpr hk)
    simpa using this
  · intro h k hk
    rw [h k (List.mem_range.mp hk)]
    decide
theorem dist_some {s p k : Nat} : dist ps al s p = some k ↔ k < s ∧ rch ps al k p = true ∧ ∀ j, j < k → rch ps al j p = false := by
  unfold dist
  rw [List.find?_range_eq_some]
  constructor
  · rintro ⟨h1, h2, h3⟩
    exact ⟨List.mem_range.mp h2, h1, fun j hj => by simpa using h3 j hj⟩
  · rintro ⟨h1, h2, h3⟩
    exact ⟨h2, List.mem_range.mpr h1, fun j hj => by rw [h3 j hj]; decide⟩
theorem mem_edge : ∀ {s p : Nat}, p ∈ edgeAt ps al s ↔ rch ps al s p = true ∧ dist ps al s p = none
  | 0, p => by
    show p ∈ [0] ↔ decide (p = 0) = true ∧ _
    rw [List.mem_singleton, decide_eq_true_eq]
    exact ⟨fun h => ⟨h, rfl⟩, fun h => h.1⟩
  | s + 1, p => by
    show p ∈ al.filter _ ↔ _
    rw [List.mem_filter, Bool.and_eq_true, List.any_eq_true, rch_succ]
    constructor
    · rintro ⟨h1, h2, q, h3, h4⟩
      have h4 := mem_edge.mp (of_decide_eq_true h4)
      exact ⟨⟨h1, q, h3, h4.1⟩, Option.isNone_iff_eq_none.mp h2⟩
    · rintro ⟨⟨h1, q, h3, h4⟩, h2⟩
      refine ⟨h1, Option.isNone_iff_eq_none.mpr h2, q, h3, decide_eq_true (mem_edge.mpr ⟨h4, dist_none.mpr fun j hj => ?_⟩)⟩
      have h5 := dist_none.mp h2 (j + 1) (by omega)
      cases h6 : rch ps al j q with
      | false => rfl
      | true =>
        rw [rch_succ.mpr ⟨h1, q, h3, h6⟩] at h5
        cases h5
theorem dist_succ {s p : Nat} : dist ps al (s + 1) p = if p ∈ edgeAt ps al s then some s else dist ps al s p := by
  by_cases h : p ∈ edgeAt ps al s
  · rw [if_pos h]
    have h1 := mem_edge.mp h
    exact dist_some.mpr ⟨by omega, h1.1, fun j hj => dist_none.mp h1.2 j hj⟩
  · rw [if_neg h]
    cases h1 : dist ps al s p with
    | some k =>
      have h2 := dist_some.mp h1
      exact dist_some.mpr ⟨by omega, h2.2⟩
    | none =>
      refine dist_none.mpr fun k hk => ?_
      by_cases e : k = s
      · subst e
        cases h2 : rch ps al k p with
        | false => rfl
        | true => exact absurd (mem_edge.mpr ⟨h2, h1⟩) h
      · exact dist_none.mp h1 k (by omega)
theorem stop_all {s : Nat} (h : edgeAt ps al s = []) : ∀ {k p : Nat}, rch ps al k p = true → dist ps al s p ≠ none := by
  have no : ∀ p, rch ps al s p = true → dist ps al s p ≠ none := fun p h1 h2 => by
    have := mem_edge.mpr ⟨h1, h2⟩
    rw [h] at this
    cases this
  intro k
  induction k with
  | zero =>
    intro p h1 h2
    by_cases e : s = 0
    · subst e
      exact no p h1 h2
    · rw [dist_none.mp h2 0 (by omega)] at h1
      cases h1
  | succ k ih =>
    intro p h1 h2
    obtain ⟨h3, q, h4, h5⟩ := rch_succ.mp h1
    cases h6 : dist ps al s q with
    | none => exact ih h5 h6
    | some j =>
      have h7 := dist_some.mp h6
      have h8 : rch ps al (j + 1) p = true := rch_succ.mpr ⟨h3, q, h4, h7.2.1⟩
      by_cases e : j + 1 = s
      · exact no p (e ▸ h8) h2
      · rw [dist_none.mp h2 (j + 1) (by omega)] at h8
        cases h8
theorem stop_same {s t : Nat} (h : edgeAt ps al s = []) (hst : s ≤ t) (p : Nat) : dist ps al t p = dist ps al s p := by
  cases h1 : dist ps al s p with
  | some k =>
    have h2 := dist_some.mp h1
    exact dist_some.mpr ⟨by omega, h2.2⟩
  | none =>
    refine dist_none.mpr fun k _ => ?_
    cases h2 : rch ps al k p with
    | false => rfl
    | true => exact absurd h1 (stop_all h h2)
theorem count_lt {p q : Nat → Bool} : ∀ {l : List Nat}, (∀ x ∈ l, p x = true → q x = true) → (∃ x ∈ l, q x = true ∧ p x = false) → l.countP p < l.countP q
  | [], _, h => by
    obtain ⟨x, hx, _⟩ := h
    cases hx
  | a :: l, h, h2 => by
    have le : l.countP p ≤ l.countP q := List.countP_mono_left fun x hx => h x (List.mem_cons_of_mem _ hx)
    rw [List.countP_cons, List.countP_cons]
    obtain ⟨x, hx, h3, h4⟩ := h2
    rcases List.mem_cons.mp hx with rfl | hx
    · rw [h3, h4]
      simp
      omega
    · have lt : l.countP p < l.countP q := count_lt (fun x hx => h x (List.mem_cons_of_mem _ hx)) ⟨x, hx, h3, h4⟩
      have := h a List.mem_cons_self
      cases hp : p a with
      | false =>
        rw [if_neg Bool.false_ne_true]
        omega
      | true =>
        rw [this hp]
        simp
        omega
theorem edge_lt {m : Nat} (h0 : 0 < m) (ha : ∀ p ∈ al, p < m) : ∀ {s p : Nat}, p ∈ edgeAt ps al s → p < m
  | 0, p, h => by
    rw [List.mem_singleton.mp h]
    exact h0
  | s + 1, p, h => ha p (List.mem_filter.mp h).1
theorem steps_le {m : Nat} (h0 : 0 < m) (ha : ∀ p ∈ al, p < m) : ∀ s, (∀ j, j < s → edgeAt ps al j ≠ []) → s + (List.range m).countP (fun p => (dist ps al s p).isNone) ≤ m
  | 0, _ => by
    have := List.countP_le_length (p := fun p => (dist ps al 0 p).isNone) (l := List.range m)
    rw [List.length_range] at this
    omega
  | s + 1, h => by
    have ih := steps_le h0 ha s fun j hj => h j (by omega)
    have lt : (List.range m).countP (fun p => (dist ps al (s + 1) p).isNone) < (List.range m).countP (fun p => (dist ps al s p).isNone) := by
      refine count_lt (fun x _ hx => ?_) ?_
      · have h1 := dist_none.mp (Option.isNone_iff_eq_none.mp hx)
        exact Option.isNone_iff_eq_none.mpr (dist_none.mpr fun k hk => h1 k (by omega))
      · obtain ⟨p, hp⟩ := List.exists_mem_of_ne_nil _ (h s (Nat.lt_succ_self s))
        refine ⟨p, List.mem_range.mpr (edge_lt h0 ha hp), Option.isNone_iff_eq_none.mpr (mem_edge.mp hp).2, ?_⟩
        rw [dist_succ, if_pos hp]
        rfl
    omega
theorem stops {m : Nat} (h0 : 0 < m) (ha : ∀ p ∈ al, p < m) : ∃ s, s ≤ m ∧ edgeAt ps al s = [] := by
  refine Classical.byContradiction fun h => ?_
  have := steps_le (ps := ps) h0 ha (m + 1) fun j hj e => h ⟨j, by omega, e⟩
  omega
theorem far_none {m p : Nat} (h0 : 0 < m) (ha : ∀ p ∈ al, p < m) : far m ps al p = none ↔ ∀ k, rch ps al k p = false := by
  obtain ⟨s, hs, he⟩ := stops (ps := ps) h0 ha
  unfold far
  rw [stop_same he hs]
  constructor
  · intro h k
    cases h1 : rch ps al k p with
    | false => rfl
    | true => exact absurd h (stop_all he h1)
  · intro h
    exact dist_none.mpr fun k _ => h k
theorem far_some {m p k : Nat} (h0 : 0 < m) (ha : ∀ p ∈ al, p < m) : far m ps al p = some k ↔ rch ps al k p = true ∧ ∀ j, j < k → rch ps al j p = false := by
  obtain ⟨s, hs, he⟩ := stops (ps := ps) h0 ha
  constructor
  · intro h
    exact (dist_some.mp h).2
  · rintro ⟨h1, h2⟩
    cases h3 : far m ps al p with
    | none =>
      rw [(far_none h0 ha).mp h3 k] at h1
      cases h1
    | some j =>
      have h4 := (dist_some.mp h3).2
      by_cases e : j < k
      · rw [h2 j e] at h4
        cases h4.1
      · by_cases e2 : k < j
        · rw [h4.2 k e2] at h1
          cases h1
        · rw [show j = k by omega]
end
/-! fewer pairs -/
def SubP (ps qs : PS) : Prop := ∀ p ∈ ps, p ∈ qs
theorem mem_row {ps : PS} {i n : Nat} : n ∈ rowOf ps i ↔ ∃ p ∈ ps, (p.1 = i ∧ n = p.2) ∨ (p.1 ≠ i ∧ p.2 = i ∧ n = p.1) := by
  unfold rowOf
  rw [List.mem_filterMap]
  constructor
  · rintro ⟨p, hp, h⟩
    refine ⟨p, hp, ?_⟩
    by_cases e : p.1 = i
    · rw [if_pos e] at h
      exact .inl ⟨e, (Option.some.inj h).symm⟩
    · rw [if_neg e] at h
      by_cases e2 : p.2 = i
      · rw [if_pos e2] at h
        exact .inr ⟨e, e2, (Option.some.inj h).symm⟩
      · rw [if_neg e2] at h
        cases h
  · rintro ⟨p, hp, ⟨e, rfl⟩ | ⟨e, e2, rfl⟩⟩
    · exact ⟨p, hp, if_pos e⟩
    · exact ⟨p, hp, by rw [if_neg e, if_pos e2]⟩
theorem row_sub {ps qs : PS} (h : SubP ps qs) {i n : Nat} (hn : n ∈ rowOf ps i) : n ∈ rowOf qs i := by
  obtain ⟨p, hp, r⟩ := mem_row.mp hn
  exact mem_row.mpr ⟨p, h p hp, r⟩
theorem clash_sub {ps qs : PS} (h : SubP ps qs) {i j : Nat} (hc : clash ps i j = true) : clash qs i j = true := by
  unfold clash adj touch at *
  rw [Bool.and_eq_true, Bool.or_eq_true, decide_eq_true_eq, List.any_eq_true] at *
  obtain ⟨h1, h2⟩ := hc
  refine ⟨h1, h2.imp (row_sub h) ?_⟩
  rintro ⟨x, hx, hy⟩
  exact ⟨x, row_sub h hx, decide_eq_true (row_sub h (of_decide_eq_true hy))⟩
theorem rch_sub {ps qs : PS} {al : List Nat} (h : SubP ps qs) : ∀ {k p : Nat}, rch ps al k p = true → rch qs al k p = true
  | 0, p, h1 => h1
  | k + 1, p, h1 => by
    obtain ⟨h2, q, h3, h4⟩ := rch_succ.mp h1
    exact rch_succ.mpr ⟨h2, q, row_sub h h3, rch_sub h h4⟩
theorem far_sub {ps qs : PS} {al : List Nat} {m p : Nat} (h0 : 0 < m) (ha : ∀ p ∈ al, p < m) (h : SubP ps qs) : (far m ps al p = none ∨ ∃ k j, far m ps al p = some k ∧ far m qs al p = some j ∧ j ≤ k) := by
  cases h1 : far m ps al p with
  | none => exact .inl rfl
  | some k =>
    have h2 := ((far_some h0 ha).mp h1).1
    have h3 := rch_sub h h2
    cases h4 : far m qs al p with
    | none =>
      rw [(far_none h0 ha).mp h4 k] at h3
      cases h3
    | some j =>
      refine .inr ⟨k, j, rfl, rfl, Nat.le_of_not_lt fun lt => ?_⟩
      rw [((far_some h0 ha).mp h4).2 k lt] at h3
      cases h3
end Wm
end
section
set_option Elab.async false
set_option linter.all false
set_option maxRecDepth 100000
set_option maxHeartbeats 4000000
namespace Lf
open PySem PySem.Spec PyProof.Rows L2
open Evl
def flat (ys : Nat → List V) (n : Nat) : List V := (List.range n).flatMap ys
theorem flat_succ (ys : Nat → List V) (n : Nat) : flat ys (n + 1) = flat ys n ++ ys n := by
  unfold flat
  rw [List.range_succ, List.flatMap_append, List.flatMap_singleton]
theorem flat_le (ys : Nat → List V) {c : Nat} (h : ∀ i, (ys i).length ≤ c) : ∀ n, (flat ys n).length ≤ n * c
  | 0 => Nat.zero_le _
  | n + 1 => by
    have h1 := flat_le ys h n
    have h2 := h n
    rw [flat_succ, List.length_append, Nat.succ_mul]
    omega
section
variable {K : PySem.W.Frag} {σ : L2.St} {H : Hp} {te : TE}
theorem el_lc2 {a : Addr} {xs : List V} {tl tl1 : TE} {j j1 c : Nat} {vs vs1 : List Nat} (ys : Nat → List V) (h : Ev tl σ H (.ref a)) (hx : SqL K H a xs) (hc : ∀ i, (ys i).length ≤ c) (hz : (xs.length + 1) * c ≤ 40000)
    (hw : ∀ x, wipe ((wipe σ vs).set j (some x)) vs = wipe σ vs) (hw1 : ∀ x y, wipe ((wipe ((wipe σ vs).set j (some x)) vs1).set j1 (some y)) vs1 = wipe ((wipe σ vs).set j (some x)) vs1)
    (h1 : ∀ (i : Nat) (x : V) H1, Ex H H1 → xs[i]? = some x → EvL tl1 ((wipe σ vs).set j (some x)) H1 (ys i))
    (he : ∀ (i : Nat) (x y : V) H1, Ex H H1 → xs[i]? = some x → y ∈ ys i → Ev te ((wipe ((wipe σ vs).set j (some x)) vs1).set j1 (some y)) H1 y) :
    EvL (tLc2 (iList K tl) (gName j) tYes (iList K tl1) (gName j1) tYes te vs vs1) σ H (flat ys xs.length) := by
  intro H0 e Q q
  refine h H0 e _ fun H1 e1 => ⟨a, rfl, ⟨xs, ex_l (e.trans e1) hx⟩, fun D hD => ?_⟩
  refine ⟨fun i m H' => m = xs.length - i ∧ i ≤ xs.length ∧ Ex H1 H' ∧ H' D = some (.lst (flat ys i)), ⟨xs.length, by simp, Nat.zero_le _, Ex.new hD, upd_same⟩, ?_⟩
  rintro i m H' ⟨rfl, hi, p2, p3⟩
  have sx : SqL K H' a xs := ex_l ((e.trans e1).trans p2) hx
  by_cases hlt : i < xs.length
  · refine .inr ⟨⟨xs, xs[i], sx, by simp [hlt]⟩, fun H'' => Ex H1 H'' ∧ H'' D = some (.lst (flat ys (i + 1))), fun H'' p' => ⟨xs.length - (i + 1), by omega, rfl, hlt, p'⟩, fun x Hy y => ?_⟩
    obtain ⟨e2, y⟩ := y
    subst e2
    have hxi := y xs sx
    refine ⟨hw x, yes_ok _ (Ex.refl _) _ fun H3 e3 => ?_⟩
    rw [if_pos rfl]
    refine h1 i x H3 (((e.trans e1).trans p2).trans e3) hxi H3 (Ex.refl _) _ fun L H4 l0 e4 hl => ⟨L, rfl, ⟨_, sq_of hl⟩, ?_⟩
    have nDL : D ≠ L := fun z => by rw [← z, e3 _ _ p3] at l0; cases l0
    refine ⟨fun j' k H'' => k = (ys i).length - j' ∧ j' ≤ (ys i).length ∧ Ex H1 H'' ∧ H'' D = some (.lst (flat ys i ++ (ys i).take j')) ∧ H'' L = some (.lst (ys i)), ⟨(ys i).length, by simp, Nat.zero_le _, (p2.trans e3).trans e4, ?_, hl⟩, ?_⟩
    · rw [List.take_zero, List.append_nil]
      exact e4 _ _ (e3 _ _ p3)
    · rintro j' k H'' ⟨rfl, hj, q1, q2, q3⟩
      by_cases hlj : j' < (ys i).length
      · refine .inr ⟨⟨_, (ys i)[j'], sq_of q3, by simp [hlj]⟩, fun H5 => Ex H1 H5 ∧ H5 D = some (.lst (flat ys i ++ (ys i).take (j' + 1))) ∧ H5 L = some (.lst (ys i)), fun H5 p' => ⟨(ys i).length - (j' + 1), by omega, rfl, hlj, p'⟩, fun z Hz w => ?_⟩
        obtain ⟨e5, w⟩ := w
        subst e5
        have hz1 := w _ (sq_of q3)
        refine ⟨hw1 x z, yes_ok _ (Ex.refl _) _ fun H6 e6 => ?_⟩
        rw [if_pos rfl]
        refine he i x z H6 (((e.trans e1).trans q1).trans e6) hxi (List.mem_of_getElem? hz1) H6 (Ex.refl _) _ fun H7 e7 => ⟨_, e7 _ _ (e6 _ _ q2), ?_, Ex.mut ((q1.trans e6).trans e7) hD, ?_, ?_⟩
        · have l1 := flat_le ys hc i
          have l2 := hc i
          have l3 : i * c ≤ xs.length * c := Nat.mul_le_mul_right c hi
          rw [Nat.succ_mul] at hz
          refine sz_lt ?_
          rw [List.length_append, List.length_take]
          omega
        · rw [upd_same, List.append_assoc, List.take_add_one, hz1]
          rfl
        · rw [upd_ne nDL.symm]
          exact e7 _ _ (e6 _ _ q3)
      · have ej : j' = (ys i).length := by omega
        subst ej
        refine .inl ⟨⟨_, sq_of q3, Nat.le_refl _⟩, q1, ?_⟩
        rw [q2, List.take_length, flat_succ]
  · have ei : i = xs.length := by omega
    subst ei
    exact .inl ⟨⟨xs, sx, Nat.le_refl _⟩, q D _ (fresh_back e1 hD) (e1.trans p2) p3⟩
theorem et_tr {p : Addr} {xs : List V} (h : Ev te σ H (.ref p)) (hx : ∀ H1, Ex H H1 → SqL K H1 p xs) : EvT (tTr K te) σ H (!xs.isEmpty) := fun H1 e Q q => h H1 e _ fun H2 e2 => ⟨!xs.isEmpty, .inl ⟨xs, hx H2 (e.trans e2), rfl⟩, q H2 e2⟩
theorem flat_rep {v : V} : ∀ n : Nat, (List.replicate n [v]).flatten = List.replicate n v
  | 0 => rfl
  | n + 1 => by
    rw [List.replicate_succ, List.replicate_succ, List.flatten_cons, flat_rep n]
    rfl
theorem el_rep {tn : TE} {v : V} {n : Nat} (h : Ev te σ H v) (hn : Ev tn σ H (.int (n : Int))) (hz : n ≤ 40000) : EvL (tOp rRep (tLst (tCons te tNil)) tn) σ H (List.replicate n v) := fun H1 e Q q =>
  h H1 e _ fun H2 e2 => ⟨by show 1 ≤ sizeLine; decide, fun p hp => hn _ ((e.trans e2).trans (Ex.new hp)) _ fun H3 e3 => ⟨p, (n : Int), [v], rfl, rfl, e3 _ _ upd_same, by omega, by omega, by
    rw [Int.toNat_natCast]
    have : 40000 ≤ sizeLine := by decide
    show 1 * n ≤ sizeLine
    omega, fun p2 hp2 => q p2 _ (fresh_back e2 (fresh_back (Ex.new hp) (fresh_back e3 hp2))) (((e2.trans (Ex.new hp)).trans e3).trans (Ex.new hp2)) (by
    rw [upd_same, Int.toNat_natCast]
    rw [flat_rep])⟩⟩
end
end Lf
namespace Wm
open PySem PySem.Spec PyProof.Rows L2 Lf
open Evl
def oV : Option Nat → V
  | none => .non
  | some k => .int (k : Int)
def oD : Option Nat → PyData
  | none => .none
  | some k => .int (k : Int)
theorem oV_non (o : Option Nat) : decide (oV o = .non) = o.isNone := by
  cases o <;> rfl
def toldV (m : Nat) (ps : PS) (al : List Nat) (s : Nat) : List V := (List.range m).map fun x => oV (dist ps al s x)
def midV (m : Nat) (ps : PS) (al : List Nat) (s i : Nat) : List V := (List.range m).map fun x => oV (if x ∈ (edgeAt ps al s).take i then some s else dist ps al s x)
def farV (m : Nat) (ps : PS) (al : List Nat) : List V := (List.range m).map fun x => oV (far m ps al x)
section
variable {m : Nat} {ps : PS} {al : List Nat} {s : Nat}
theorem told_len : (toldV m ps al s).length = m := by
  unfold toldV
  rw [List.length_map, List.length_range]
theorem mid_len {i : Nat} : (midV m ps al s i).length = m := by
  unfold midV
  rw [List.length_map, List.length_range]
theorem far_len : (farV m ps al).length = m := by
  unfold farV
  rw [List.length_map, List.length_range]
theorem far_get {x : Nat} (h : x < m) : (farV m ps al)[x]? = some (oV (far m ps al x)) := by
  unfold farV
  rw [List.getElem?_map, List.getElem?_range h]
  rfl
theorem told_get {x : Nat} (h : x < m) : (toldV m ps al s)[x]? = some (oV (dist ps al s x)) := by
  unfold toldV
  rw [List.getElem?_map, List.getElem?_range h]
  rfl
theorem told_zero : toldV m ps al 0 = List.replicate m V.non := by
  unfold toldV
  refine List.ext_getElem? fun i => ?_
  by_cases h : i < m
  · rw [List.getElem?_map, List.getElem?_range h, List.getElem?_replicate, if_pos h]
    rfl
  · rw [List.getElem?_eq_none (by rw [List.length_map, List.length_range]; omega), List.getElem?_eq_none (by rw [List.length_replicate]; omega)]
theorem mid_zero : midV m ps al s 0 = toldV m ps al s := by
  unfold midV toldV
  refine List.map_congr_left fun x _ => ?_
  rw [List.take_zero, if_neg (fun h => nomatch h)]
theorem mid_all : midV m ps al s (edgeAt ps al s).length = toldV m ps al (s + 1) := by
  unfold midV toldV
  refine List.map_congr_left fun x _ => ?_
  rw [List.take_length, dist_succ]
theorem mid_step {i n : Nat} (hi : (edgeAt ps al s)[i]? = some n) (hn : n < m) : (midV m ps al s i).set n (.int (s : Int)) = midV m ps al s (i + 1) := by
  unfold midV
  rw [set_range _ _ _ _ hn]
  refine List.map_congr_left fun x _ => ?_
  rw [List.take_add_one, hi]
  by_cases e : n = x
  · subst e
    rw [if_pos rfl, if_pos (List.mem_append_right _ (by exact List.mem_singleton.mpr rfl))]
    rfl
  · rw [if_neg e]
    congr 1
    by_cases h : x ∈ (edgeAt ps al s).take i
    · rw [if_pos h, if_pos (List.mem_append_left _ h)]
    · rw [if_neg h, if_neg]
      intro h2
      rcases List.mem_append.mp h2 with h2 | h2
      · exact h h2
      · exact e (List.mem_singleton.mp h2).symm
theorem told_end (h : edgeAt ps al s = []) (hs : s ≤ m) : toldV m ps al s = farV m ps al := by
  unfold toldV farV
  refine List.map_congr_left fun x _ => ?_
  unfold far
  rw [stop_same h hs]
end
end Wm
namespace Wm
open PySem PySem.Spec PyProof.Rows L2 Lf
open Evl
def risesN (cs : List Nat) : Bool := ((List.range (cs.length - 1)).map fun i => decide (cs.getD i 0 < cs.getD (i + 1) 0)).all id
def cutHolds (ps : PS) (al cs : List Nat) : Bool := !((cs.any fun x => decide (x = 0) || !decide (x ∈ al)) || !risesN cs) && (cs.flatMap (rowOf ps)).all fun n => decide (n ∈ cs) || !decide (n ∈ al)
theorem flat_rows (ps : PS) (cs : List Nat) : flat (fun i => vN (rowOf ps (cs.getD i 0))) cs.length = vN (cs.flatMap (rowOf ps)) := by
  unfold flat vN
  rw [List.map_flatMap]
  have e : cs = (List.range cs.length).map fun i => cs.getD i 0 := by
    refine List.ext_getElem? fun i => ?_
    by_cases q : i < cs.length
    · rw [List.getElem?_map, List.getElem?_range q, List.getElem?_eq_getElem q]
      show _ = some (cs.getD i 0)
      rw [List.getD_eq_getElem?_getD, List.getElem?_eq_getElem q]
      rfl
    · rw [List.getElem?_eq_none (by omega), List.getElem?_eq_none (by rw [List.length_map, List.length_range]; omega)]
  conv => rhs; rw [e]
  rw [List.flatMap_map]
theorem all_getD {b : List Nat} (f : Nat → Bool) : b.all f = (List.range b.length).all fun j => f (b.getD j 0) := by
  have h := any_getD (b := b) fun x => !f x
  rw [List.all_eq_not_any_not, h, List.all_eq_not_any_not]
theorem rises_of {cs : List Nat} (h : cs.Pairwise (· < ·)) : risesN cs = true := by
  unfold risesN
  rw [List.all_map, List.all_eq_true]
  intro i hi
  have hi := List.mem_range.mp hi
  have h1 : i < cs.length := by omega
  have h2 : i + 1 < cs.length := by omega
  show decide (cs.getD i 0 < cs.getD (i + 1) 0) = true
  rw [List.getD_eq_getElem?_getD, List.getD_eq_getElem?_getD, List.getElem?_eq_getElem h1, List.getElem?_eq_getElem h2]
  exact decide_eq_true (List.pairwise_iff_getElem.mp h i (i + 1) h1 h2 (Nat.lt_succ_self i))
end Wm
end
section
set_option Elab.async false
set_option linter.all false
set_option maxRecDepth 100000
set_option maxHeartbeats 4000000
namespace Lf
open PySem PySem.Spec PyProof.Rows L2
open Evl
section
variable {K : PySem.W.Frag} {σ : L2.St} {H H' : Hp} {ta tb te tx : TE} {x y z v : V}
/-! arguments, some of which are new lists -/
def EvF (ta : TA) (σ : L2.St) (H : Hp) (P : List V → Hp → Prop) : Prop := ∀ H1, Ex H H1 → ∀ Q : List V → Hp → Prop, (∀ vs H2, Ex H1 H2 → P vs H2 → Q vs H2) → ta σ H1 Q
theorem ef_nil : EvF tNil σ H (fun vs _ => vs = []) := fun H1 e Q q => q [] H1 (Ex.refl H1) rfl
theorem ef_cons {tr : TA} {P : List V → Hp → Prop} (h : Ev te σ H x) (hr : EvF tr σ H P) : EvF (tCons te tr) σ H (fun vs H2 => ∃ us, vs = x :: us ∧ P us H2) := fun H1 e Q q =>
  h H1 e _ fun H2 e2 => hr H2 (e.trans e2) _ fun us H3 e3 p => q _ H3 (e2.trans e3) ⟨us, rfl, p⟩
theorem ef_consL {tr : TA} {xs : List V} {P : List V → Hp → Prop} (h : EvL te σ H xs) (hr : EvF tr σ H P) : EvF (tCons te tr) σ H (fun vs H2 => ∃ p us, vs = .ref p :: us ∧ H p = none ∧ H2 p = some (.lst xs) ∧ P us H2) := fun H1 e Q q =>
  h H1 e _ fun p H2 p0 e2 hp => hr H2 (e.trans e2) _ fun us H3 e3 pp => q _ H3 (e2.trans e3) ⟨p, us, rfl, fresh_back e p0, e3 _ _ hp, pp⟩
theorem ef_all {ta : TA} {vs : List V} (h : EvA ta σ H vs) : EvF ta σ H (fun us _ => us = vs) := fun H1 e Q q => h H1 e _ fun H2 e2 => q _ H2 e2 rfl
theorem ev_clF {sp : Sp} {P : List V → Hp → Prop} {E : XK} {ta : TA} (h : EvF ta σ H P) (hs : ∀ vs H1, Ex H H1 → P vs H1 → SV sp vs H1 z) : Ev (tCl sp E ta) σ H z := fun H1 e Q q =>
  h H1 e _ fun vs H2 e2 p => hs vs H2 (e.trans e2) p H2 (Ex.refl H2) Q (fun H3 e3 => q H3 (e2.trans e3)) E
theorem el_clF {sp : Sp} {P : List V → Hp → Prop} {xs : List V} {E : XK} {ta : TA} (h : EvF ta σ H P) (hs : ∀ vs H1, Ex H H1 → P vs H1 → SL sp vs H1 xs) : EvL (tCl sp E ta) σ H xs := fun H1 e Q q =>
  h H1 e _ fun vs H2 e2 p => hs vs H2 (e.trans e2) p H2 (Ex.refl H2) Q (fun r H3 hr e3 h3 => q r H3 (fresh_back e2 hr) (e2.trans e3) h3) E
theorem ev_mtF {C a dx : Addr} {m : Str} {fs : List (Str × V)} {sp : Sp} {P : List V → Hp → Prop} {E : XK} {tr : TA} (ho : Ev ta σ H (.ref a)) (hi : H a = some (.ins C dx fs)) (hm : fs.lookup m = none) (h : EvF tr σ H P) (hs : ∀ vs H1, Ex H H1 → P vs H1 → SV sp (.ref a :: vs) H1 z) : Ev (tMt C m sp E ta tr) σ H z := fun H1 e Q q =>
  ho H1 e _ fun H2 e2 => ⟨a, dx, fs, rfl, e2 _ _ (e _ _ hi), hm, h H2 (e.trans e2) _ fun vs H3 e3 p => hs vs H3 ((e.trans e2).trans e3) p H3 (Ex.refl H3) Q (fun H4 e4 => q H4 ((e2.trans e3).trans e4)) E⟩
theorem el_mtF {C a dx : Addr} {m : Str} {fs : List (Str × V)} {sp : Sp} {P : List V → Hp → Prop} {xs : List V} {E : XK} {tr : TA} (ho : Ev ta σ H (.ref a)) (hi : H a = some (.ins C dx fs)) (hm : fs.lookup m = none) (h : EvF tr σ H P) (hs : ∀ vs H1, Ex H H1 → P vs H1 → SL sp (.ref a :: vs) H1 xs) : EvL (tMt C m sp E ta tr) σ H xs := fun H1 e Q q =>
  ho H1 e _ fun H2 e2 => ⟨a, dx, fs, rfl, e2 _ _ (e _ _ hi), hm, h H2 (e.trans e2) _ fun vs H3 e3 p => hs vs H3 ((e.trans e2).trans e3) p H3 (Ex.refl H3) Q (fun r H4 hr e4 h4 => q r H4 (fresh_back e2 (fresh_back e3 hr)) ((e2.trans e3).trans e4) h4) E⟩
/-- list + list, both new -/
theorem el_cat {xs ys : List V} (h1 : EvL ta σ H xs) (h2 : EvL tb σ H ys) (hz : xs.length + ys.length ≤ sizeLine) : EvL (tOp rCat ta tb) σ H (xs ++ ys) := fun H1 e Q q =>
  h1 H1 e _ fun p H2 p0 e2 hp => h2 H2 (e.trans e2) _ fun r H3 r0 e3 hr => ⟨p, r, xs, ys, rfl, rfl, e3 _ _ hp, hr, hz, fun t ht => q t _ (fresh_back e2 (fresh_back e3 ht)) ((e2.trans e3).trans (Ex.new ht)) upd_same⟩
theorem ev_neLL {xs ys : List V} {d e : PyData} (h1 : EvL ta σ H xs) (h2 : EvL tb σ H ys) (hd : ∀ p H1, Ex H H1 → H1 p = some (.lst xs) → Dp K H1 (.ref p) d) (he : ∀ p H1, Ex H H1 → H1 p = some (.lst ys) → Dp K H1 (.ref p) e) (s1 : SeqAt.shaped d = true) (s2 : SeqAt.shaped e = true) : Ev (tOp (rNeD K) ta tb) σ H (.bl (!PyData.eqv d e)) :=
  ev_opLL h1 h2 fun p r H1 hp hr e1 => rv_val fun H2 e2 Q k => ⟨d, e, dp_ex e2 _ _ (hd p H1 e1 hp), dp_ex e2 _ _ (he r H1 e1 hr), s1, s2, k⟩
end
end Lf
namespace Wm
open PySem PySem.Spec PyProof.Rows L2 Lf
open Evl
theorem slots_hold_sub {m : Nat} {ps qs : PS} (hs : SubP qs ps) : slotsHold m qs ((slotsUpto ps m).map fun n : Nat => (n : Int)) = true := by
  have ok := slots_hold_ok (m := m) ps
  unfold slotsHold at *
  rw [Bool.and_eq_true, Bool.and_eq_true] at *
  refine ⟨ok.1, ok.2.1, ?_⟩
  have h := ok.2.2
  rw [List.all_eq_true] at *
  intro pl hpl
  have h1 := h pl hpl
  rw [Bool.not_eq_true', List.any_eq_false] at *
  intro l hl h2
  refine h1 l hl ?_
  rw [Bool.and_eq_true] at *
  exact ⟨h2.1, clash_sub hs h2.2⟩
def cutOf (m : Nat) (ps : PS) (al : List Nat) : List Nat := al.filter fun x => (far m ps al x).isNone
theorem cut_ok {m : Nat} {ps qs : PS} {al : List Nat} (m0 : 0 < m) (hal : ∀ x ∈ al, x < m) (hp : al.Pairwise (· < ·)) (hs : SubP qs ps) : cutHolds qs al (cutOf m ps al) = true := by
  unfold cutHolds
  have h1 : ((cutOf m ps al).any fun x => decide (x = 0) || !decide (x ∈ al)) = false := by
    rw [List.any_eq_false]
    intro x hx
    obtain ⟨h1, h2⟩ := List.mem_filter.mp hx
    have n0 : x ≠ 0 := by
      rintro rfl
      have := (far_none m0 hal).mp (Option.isNone_iff_eq_none.mp h2) 0
      cases this
    rw [decide_eq_false n0, decide_eq_true h1]
    decide
  have h2 : risesN (cutOf m ps al) = true := rises_of (hp.filter _)
  have h3 : (((cutOf m ps al).flatMap (rowOf qs)).all fun n => decide (n ∈ cutOf m ps al) || !decide (n ∈ al)) = true := by
    rw [List.all_eq_true]
    intro n hn
    obtain ⟨x, hx, hr⟩ := List.mem_flatMap.mp hn
    obtain ⟨h1, h2⟩ := List.mem_filter.mp hx
    by_cases hna : n ∈ al
    · have : n ∈ cutOf m ps al := by
        refine List.mem_filter.mpr ⟨hna, ?_⟩
        rw [Option.isNone_iff_eq_none, far_none m0 hal]
        intro k
        have h4 := (far_none m0 hal).mp (Option.isNone_iff_eq_none.mp h2) (k + 1)
        cases h5 : rch ps al k n with
        | false => rfl
        | true =>
          rw [rch_succ.mpr ⟨h1, n, row_sub hs hr, h5⟩] at h4
          cases h4
      rw [decide_eq_true this]
      rfl
    · rw [decide_eq_false hna]
      exact Bool.or_true _
  rw [h1, h2, h3]
  rfl
theorem cut_sub {m : Nat} {ps qs : PS} {al : List Nat} (m0 : 0 < m) (hal : ∀ x ∈ al, x < m) (hs : SubP qs ps) {x : Nat} (h : x ∈ cutOf m ps al) : x ∈ cutOf m qs al := by
  obtain ⟨h1, h2⟩ := List.mem_filter.mp h
  refine List.mem_filter.mpr ⟨h1, ?_⟩
  rw [Option.isNone_iff_eq_none] at *
  rcases far_sub (p := x) m0 hal hs with e | ⟨k, j, _, e, _⟩
  · exact e
  · rw [h2] at e
    cases e
/-! no pairs -/
theorem row_nil (i : Nat) : rowOf [] i = [] := rfl
theorem far_nil {m x : Nat} {al : List Nat} (m0 : 0 < m) (hal : ∀ x ∈ al, x < m) : far m [] al x = if x = 0 then some 0 else none := by
  by_cases e : x = 0
  · rw [if_pos e, far_some m0 hal]
    exact ⟨decide_eq_true e, fun j h => absurd h (Nat.not_lt_zero _)⟩
  · rw [if_neg e, far_none m0 hal]
    intro k
    cases k with
    | zero => exact decide_eq_false e
    | succ k =>
      cases h : rch [] al (k + 1) x with
      | false => rfl
      | true =>
        obtain ⟨_, q, h2, _⟩ := rch_succ.mp h
        cases h2
theorem clash_nil (i j : Nat) : clash [] i j = false := by
  unfold clash adj touch
  rw [row_nil]
  simp
theorem slots_nil : ∀ n, slotsUpto [] n = List.replicate n 0
  | 0 => rfl
  | n + 1 => by
    have h : lesser [] n = [] := by
      unfold lesser
      have : ((List.range n).filter fun l => clash [] l n) = [] := List.filter_eq_nil_iff.mpr fun l _ => by
        rw [clash_nil]
        decide
      rw [this]
      rfl
    rw [List.replicate_succ', ← slots_nil n]
    show slotsUpto [] n ++ [least (lesser [] n)] = _
    rw [h]
    rfl
def dFar (m : Nat) (ps : PS) (al : List Nat) : PyData := .list ((List.range m).map fun x => oD (far m ps al x))
theorem oV_dp {K : PySem.W.Frag} {H : Hp} (o : Option Nat) : Dp K H (oV o) (oD o) := by
  cases o with
  | none => exact .non
  | some k => exact .int _
theorem far_dps {K : PySem.W.Frag} {H : Hp} (m : Nat) (ps : PS) (al : List Nat) : DpAll K H (farV m ps al) ((List.range m).map fun x => oD (far m ps al x)) := by
  refine dps_of (by rw [far_len, List.length_map, List.length_range]) fun i v d hv hd => ?_
  by_cases h : i < m
  · rw [far_get h] at hv
    rw [List.getElem?_map, List.getElem?_range h] at hd
    cases hv
    cases hd
    exact oV_dp _
  · rw [List.getElem?_eq_none (by rw [far_len]; omega)] at hv
    cases hv
theorem rep_far {m : Nat} {ps : PS} {al : List Nat} (h : m ≤ 1000) : Rep 1 100000 (dFar m ps al) := by
  have := Rep.list (n := 0) (w := 40) (ds := (List.range m).map fun x => oD (far m ps al x)) (fun d hd => by
    obtain ⟨x, hx, rfl⟩ := List.mem_map.mp hd
    cases q : far m ps al x with
    | none => exact Rep.non.mono (Nat.le_refl _) (by decide)
    | some k =>
      have := (dist_some.mp q).1
      exact Rep.int (by show k < _; omega))
  rw [List.length_map, List.length_range] at this
  exact this.mono (Nat.le_refl _) (by omega)
end Wm
namespace Wm
open PySem PySem.Spec PyProof.Rows L2 Lf
theorem flat2 (o u : Option Nat) : [oV o, oV u].all flatV = true := by
  cases o <;> cases u <;> rfl
theorem inv_non1 (u : Option Nat) : (V.bl (!inV .non [V.non, oV u])) = V.bl false := by
  cases u <;> rfl
end Wm
namespace Lf
open PySem PySem.Spec PyProof.Rows L2
open Evl
theorem tany_gt {b : Addr × Addr} {σ : L2.St} {H : Hp} {many : Int} {i : Nat} (hb : Bag H b) (hi : σ[i]? = some (some (.ref b.1))) (hm : 0 < many ∧ many < 1073741824) :
    TAny (Step b) (tTest (tOp (rI0 fun i j => .bl (decide (j < i))) (tCl spTake E0 (tCons (tVar i) (tCons (tC (.int many)) tNil))) (tC (.int 0)))) σ H := fun Q q =>
  ⟨_, hi, b, many, rfl, hb, hm, fun v H' _ _ bg s => ⟨v, 0, rfl, rfl, _, rfl, q _ _ (.draw bg s)⟩⟩
end Lf
namespace Wm
open PySem PySem.Spec PyProof.Rows L2 Lf
open Evl
theorem eqv_dP (p q : Nat × Nat) : PyData.eqv (dP p) (dP q) = decide (p = q) := by
  obtain ⟨a, b⟩ := p
  obtain ⟨c, d⟩ := q
  unfold dP
  rw [Bool.eq_iff_iff, decide_eq_true_eq]
  simp only [PyData.eqv, PyData.eqvAll, Bool.and_eq_true, decide_eq_true_eq, beq_iff_eq, Prod.mk.injEq, Bool.and_true]
  omega
theorem Good.sub {m : Nat} {ps qs : PS} (g : Good m ps) (h : qs.Sublist ps) : Good m qs := ⟨g.m2, g.m10, fun p hp => g.lt p (h.subset hp), g.pw.sublist h, Nat.le_trans h.length_le g.few⟩
def pick (ps : PS) (f : Nat → Bool) : PS := ((List.range ps.length).filter f).map fun j => ps.getD j (0, 0)
theorem pick_sub (ps : PS) (f : Nat → Bool) : (pick ps f).Sublist ps := by
  have e : ps = (List.range ps.length).map fun j => ps.getD j (0, 0) := by
    refine List.ext_getElem? fun i => ?_
    by_cases q : i < ps.length
    · rw [List.getElem?_map, List.getElem?_range q, List.getElem?_eq_getElem q]
      show _ = some (ps.getD i (0, 0))
      rw [List.getD_eq_getElem?_getD, List.getElem?_eq_getElem q]
      rfl
    · rw [List.getElem?_eq_none (by omega), List.getElem?_eq_none (by rw [List.length_map, List.length_range]; omega)]
  have h : (pick ps f).Sublist ((List.range ps.length).map fun j => ps.getD j (0, 0)) := List.filter_sublist.map _
  rw [← e] at h
  exact h
theorem PairsIn.pick {H : Hp} {ws : List V} {ps : PS} (h : PairsIn H ws ps) (f : Nat → Bool) : PairsIn H (given ws.length f fun j => ws.getD j .non) (Wm.pick ps f) := by
  unfold given Wm.pick
  rw [h.1]
  refine ⟨by rw [List.length_map, List.length_map], fun i p hp => ?_⟩
  rw [List.getElem?_map] at hp ⊢
  cases q : ((List.range ps.length).filter f)[i]? with
  | none =>
    rw [q] at hp
    cases hp
  | some j =>
    rw [q] at hp
    have hj : j < ps.length := List.mem_range.mp (List.mem_filter.mp (List.mem_of_getElem? q)).1
    have hp : ps.getD j (0, 0) = p := Option.some.inj hp
    rw [List.getD_eq_getElem?_getD, List.getElem?_eq_getElem hj] at hp
    obtain ⟨t, h1, h2⟩ := h.2 j p (by rw [List.getElem?_eq_getElem hj]; exact congrArg some hp)
    refine ⟨t, ?_, h2⟩
    show some (ws.getD j .non) = _
    rw [List.getD_eq_getElem?_getD, h1]
    rfl
theorem PairsIn.erase {H : Hp} {ws : List V} {ps : PS} (h : PairsIn H ws ps) (k : Nat) : PairsIn H (ws.eraseIdx k) (ps.eraseIdx k) := by
  refine ⟨by rw [List.length_eraseIdx, List.length_eraseIdx, h.1], fun i p hp => ?_⟩
  rw [List.getElem?_eraseIdx] at hp ⊢
  split
  · rename_i lt
    rw [if_pos lt] at hp
    exact h.2 i p hp
  · rename_i lt
    rw [if_neg lt] at hp
    exact h.2 (i + 1) p hp
theorem WebNew.base {C : Addr} {H0 H1 H : Hp} {x : Addr} {m : Nat} {ps : PS} (h : WebNew C H1 H x m ps) (e : Ex H0 H1) : WebNew C H0 H x m ps := by
  obtain ⟨g, dx, a1, a2, ws1, ws2, h1, h2, h3, h4, h5, f0, f1, f2, fr⟩ := h
  exact ⟨g, dx, a1, a2, ws1, ws2, h1, h2, h3, h4, h5, fresh_back e f0, fresh_back e f1, fresh_back e f2, fun i t hi => fresh_back e (fr i t hi)⟩
theorem vN_zeros (m : Nat) : vN (slotsUpto [] m) = List.replicate m (V.int 0) := by
  unfold vN
  rw [slots_nil, List.map_replicate]
  rfl
theorem far_empty {m : Nat} {al : List Nat} (m0 : 0 < m) (hal : ∀ x ∈ al, x < m) : farV m [] al = [V.int 0] ++ List.replicate (m - 1) V.non := by
  unfold farV
  refine List.ext_getElem? fun i => ?_
  by_cases h : i < m
  · rw [List.getElem?_map, List.getElem?_range h]
    show some (oV (far m [] al i)) = _
    rw [far_nil m0 hal]
    cases i with
    | zero => rfl
    | succ i =>
      rw [if_neg (Nat.succ_ne_zero i)]
      show some V.non = (List.replicate (m - 1) V.non)[i]?
      rw [List.getElem?_replicate, if_pos (by omega)]
  · rw [List.getElem?_eq_none (by rw [List.length_map, List.length_range]; omega), List.getElem?_eq_none (by rw [List.length_append, List.length_replicate, List.length_singleton]; omega)]
end Wm
namespace Lf
open PySem PySem.Spec PyProof.Rows L2
open Evl
section
variable {K : PySem.W.Frag} {σ : L2.St} {H : Hp} {ta : TA} {te : TE} {x : V} {D : Ends} {tz : TS}
theorem ef_consF {tr : TA} {P R : List V → Hp → Prop} (h : EvF ta σ H P) (hz : ∀ vs H2, P vs H2 → vs.length ≤ 1000) (hr : EvF tr σ H R) : EvF (tCons (tLst ta) tr) σ H (fun vs H2 => ∃ p us xs H1, vs = .ref p :: us ∧ Ex H H1 ∧ P xs H1 ∧ Ex H1 H2 ∧ H2 p = some (.lst xs) ∧ R us H2) := fun H1 e Q q =>
  h H1 e _ fun xs H2 e2 p => ⟨Nat.le_trans (hz xs H2 p) (by decide), fun r hr0 => hr _ ((e.trans e2).trans (Ex.new hr0)) _ fun us H3 e3 pr => q _ H3 ((e2.trans (Ex.new hr0)).trans e3) ⟨r, us, xs, H2, rfl, e.trans e2, p, (Ex.new hr0).trans e3, e3 _ _ upd_same, pr⟩⟩
theorem q_asgF {i : Nat} {P : List V → Hp → Prop} (h : EvF ta σ H P) (hz : ∀ vs H2, P vs H2 → vs.length ≤ 1000) (k : ∀ p vs H2, Ex H H2 → P vs H2 → H2 p = none → tz D (σ.set i (some (.ref p))) (upd H2 p (.lst vs))) : tSeq (tAsg (tLst ta) (gName i)) tz D σ H :=
  h H (Ex.refl H) _ fun vs H2 e2 p => ⟨Nat.le_trans (hz vs H2 p) (by decide), fun r hr => k r vs H2 e2 p hr⟩
end
end Lf
namespace Lf
open PySem PySem.Spec PyProof.Rows L2 Wm
open Evl
section
variable {K : PySem.W.Frag} {σ : L2.St} {H : Hp} {ta tb : TE} {tl : TA}
theorem ef_mono {P R : List V → Hp → Prop} (h : EvF tl σ H P) (hp : ∀ vs H1, Ex H H1 → P vs H1 → R vs H1) : EvF tl σ H R := fun H1 e Q q => h H1 e _ fun vs H2 e2 p => q vs H2 e2 (hp vs H2 (e.trans e2) p)
theorem ev_neS {xs : List V} {ds : List PyData} {n w : Nat} (h1 : EvL ta σ H xs) (h2 : EvL tb σ H xs) (hd : ∀ H1, Ex H H1 → DpAll K H1 xs ds) (r : Rep n w (.list ds)) (hn : n ≤ 64) : Ev (tOp (rNeD K) ta tb) σ H (.bl false) := by
  have h := ev_neLL (K := K) (d := .list ds) (e := .list ds) h1 h2 (fun p H1 e hp => .lst (sq_of hp) (hd H1 e)) (fun p H1 e hp => .lst (sq_of hp) (hd H1 e)) (r.sh.shaped hn) (r.sh.shaped hn)
  rw [r.eqv] at h
  exact h
end
end Lf
namespace Wm
open PySem PySem.Spec PyProof.Rows L2 Lf
open Evl
theorem M2.up {b : Addr × Addr} {q : Addr} {H H' : Hp} (s : Step b H H') (hq : H q = none) : Ex (mask b.1 H) (M2 b q H') := fun c o h => by
  have n : c ≠ q := by
    rintro rfl
    have h1 := mask_le _ _ _ _ h
    rw [hq] at h1
    cases h1
  exact (mask_at n).trans (s.2 _ _ h)
theorem seq_nat {j n : Nat} (h : j < n) : seqIndex? (j : Int) n = some j := by
  have := PySem.StrLaws.seqIndex_nonneg (i := (j : Int)) (n := n) (by omega) (by omega)
  rw [this]
  rfl
end Wm
end
section
set_option Elab.async false
set_option linter.all false
set_option maxRecDepth 100000
set_option maxHeartbeats 4000000
/-! who is reached, fair distances, roads, closed sets: what k15 says of a web -/
namespace Wm
open PySem PySem.Spec PyProof.Rows L2 Lf
open Evl
section
variable {m : Nat} {ps : PS} {al : List Nat}
/-- one round: those of al that are in s, or hear one of s -/
def spread (ps : PS) (al : List Nat) (s : List Nat) : List Nat := al.filter fun p => decide (p ∈ s) || (rowOf ps p).any fun q => decide (q ∈ s)
def spreads (ps : PS) (al : List Nat) (s : List Nat) : Nat → List Nat
  | 0 => s
  | k + 1 => spread ps al (spreads ps al s k)
theorem mem_spread {s : List Nat} {p : Nat} : p ∈ spread ps al s ↔ p ∈ al ∧ (p ∈ s ∨ ∃ q, q ∈ rowOf ps p ∧ q ∈ s) := by
  unfold spread
  rw [List.mem_filter, Bool.or_eq_true, decide_eq_true_eq, List.any_eq_true]
  refine and_congr_right fun _ => or_congr_right ⟨?_, ?_⟩
  · rintro ⟨q, h1, h2⟩
    exact ⟨q, h1, of_decide_eq_true h2⟩
  · rintro ⟨q, h1, h2⟩
    exact ⟨q, h1, decide_eq_true h2⟩
theorem reach_iff (h0 : 0 ∈ al) : ∀ {k p : Nat}, p ∈ spreads ps al [0] k ↔ ∃ j, j ≤ k ∧ rch ps al j p = true
  | 0, p => by
    show p ∈ [0] ↔ _
    rw [List.mem_singleton]
    constructor
    · rintro rfl
      exact ⟨0, Nat.le_refl _, rfl⟩
    · rintro ⟨j, hj, h⟩
      have : j = 0 := by omega
      subst this
      exact of_decide_eq_true h
  | k + 1, p => by
    show p ∈ spread ps al (spreads ps al [0] k) ↔ _
    rw [mem_spread, reach_iff h0]
    constructor
    · rintro ⟨h1, ⟨j, hj, h2⟩ | ⟨q, hq, h2⟩⟩
      · exact ⟨j, by omega, h2⟩
      · obtain ⟨j, hj, h3⟩ := (reach_iff h0).mp h2
        exact ⟨j + 1, by omega, rch_succ.mpr ⟨h1, q, hq, h3⟩⟩
    · rintro ⟨j, hj, h⟩
      cases j with
      | zero =>
        have : p = 0 := of_decide_eq_true h
        subst this
        exact ⟨h0, .inl ⟨0, Nat.zero_le _, rfl⟩⟩
      | succ j =>
        obtain ⟨h1, q, hq, h2⟩ := rch_succ.mp h
        exact ⟨h1, .inr ⟨q, hq, (reach_iff h0).mpr ⟨j, by omega, h2⟩⟩⟩
def reached (m : Nat) (ps : PS) (al : List Nat) : List Nat := al.filter fun p => !(far m ps al p).isNone
theorem reach_all (m0 : 0 < m) (hal : ∀ x ∈ al, x < m) (h0 : 0 ∈ al) : spreads ps al [0] m = reached m ps al := by
  obtain ⟨n, rfl⟩ : ∃ n, m = n + 1 := ⟨m - 1, by omega⟩
  show al.filter _ = al.filter _
  refine List.filter_congr fun p hp => ?_
  rw [Bool.eq_iff_iff]
  have h1 : (decide (p ∈ spreads ps al [0] n) || (rowOf ps p).any fun q => decide (q ∈ spreads ps al [0] n)) = true ↔ p ∈ spreads ps al [0] (n + 1) := by
    show _ ↔ p ∈ spread ps al _
    unfold spread
    rw [List.mem_filter]
    exact ⟨fun h => ⟨hp, h⟩, fun h => h.2⟩
  rw [h1, reach_iff h0, Bool.not_eq_true', Option.isNone_eq_false_iff]
  constructor
  · rintro ⟨j, _, h⟩
    cases q : far (n + 1) ps al p with
    | none =>
      rw [(far_none m0 hal).mp q j] at h
      cases h
    | some k => rfl
  · intro h
    obtain ⟨k, hk⟩ := Option.isSome_iff_exists.mp h
    have h2 := dist_some.mp hk
    exact ⟨k, by omega, h2.2.1⟩
theorem far_root (m0 : 0 < m) (hal : ∀ x ∈ al, x < m) : far m ps al 0 = some 0 := (far_some m0 hal).mpr ⟨rfl, fun j h => absurd h (Nat.not_lt_zero _)⟩
theorem far_dead (m0 : 0 < m) (hal : ∀ x ∈ al, x < m) {p : Nat} (h : p ∉ al) (hp : p ≠ 0) : far m ps al p = none := by
  refine (far_none m0 hal).mpr fun k => ?_
  cases k with
  | zero => exact decide_eq_false hp
  | succ k =>
    cases q : rch ps al (k + 1) p with
    | false => rfl
    | true => exact absurd (rch_succ.mp q).1 h
/-- a step nearer -/
theorem far_pred (m0 : 0 < m) (hal : ∀ x ∈ al, x < m) {p k : Nat} (h : far m ps al p = some (k + 1)) : p ∈ al ∧ ∃ q, q ∈ rowOf ps p ∧ far m ps al q = some k := by
  obtain ⟨h1, h2⟩ := (far_some m0 hal).mp h
  obtain ⟨h3, q, h4, h5⟩ := rch_succ.mp h1
  refine ⟨h3, q, h4, (far_some m0 hal).mpr ⟨h5, fun j hj => ?_⟩⟩
  cases h6 : rch ps al j q with
  | false => rfl
  | true =>
    have h7 := h2 (j + 1) (by omega)
    rw [rch_succ.mpr ⟨h3, q, h4, h6⟩] at h7
    cases h7
/-- a neighbour's distance is at most one less -/
theorem far_near (m0 : 0 < m) (hal : ∀ x ∈ al, x < m) {p q k : Nat} (hp : p ∈ al) (hq : q ∈ rowOf ps p) (h : far m ps al q = some k) : ∃ j, far m ps al p = some j ∧ j ≤ k + 1 := by
  have h1 := ((far_some m0 hal).mp h).1
  have h2 : rch ps al (k + 1) p = true := rch_succ.mpr ⟨hp, q, hq, h1⟩
  cases h3 : far m ps al p with
  | none =>
    rw [(far_none m0 hal).mp h3] at h2
    cases h2
  | some j =>
    refine ⟨j, rfl, Nat.le_of_not_lt fun lt => ?_⟩
    rw [((far_some m0 hal).mp h3).2 _ lt] at h2
    cases h2
/-- the neighbours' distances, those that live and have one -/
def stepsOf (m : Nat) (ps : PS) (al : List Nat) (p : Nat) : List Nat := ((rowOf ps p).filter fun q => decide (q ∈ al) && !(far m ps al q).isNone).map fun q => (far m ps al q).getD 0
theorem mem_steps {p k : Nat} : k ∈ stepsOf m ps al p ↔ ∃ q, q ∈ rowOf ps p ∧ q ∈ al ∧ far m ps al q = some k := by
  unfold stepsOf
  rw [List.mem_map]
  constructor
  · rintro ⟨q, h1, h2⟩
    obtain ⟨h3, h4⟩ := List.mem_filter.mp h1
    rw [Bool.and_eq_true, decide_eq_true_eq] at h4
    refine ⟨q, h3, h4.1, ?_⟩
    cases h5 : far m ps al q with
    | none =>
      rw [h5] at h4
      cases h4.2
    | some j =>
      rw [h5] at h2
      exact congrArg some h2
  · rintro ⟨q, h1, h2, h3⟩
    refine ⟨q, List.mem_filter.mpr ⟨h1, ?_⟩, by rw [h3]; rfl⟩
    rw [h3, decide_eq_true h2]
    rfl
theorem fair_none (m0 : 0 < m) (hal : ∀ x ∈ al, x < m) (h0 : 0 ∈ al) {p : Nat} (hp : p ≠ 0) (h : p ∉ al ∨ stepsOf m ps al p = []) : far m ps al p = none := by
  rcases h with h | h
  · exact far_dead m0 hal h hp
  · cases h1 : far m ps al p with
    | none => rfl
    | some k =>
      cases k with
      | zero => exact absurd (of_decide_eq_true ((far_some m0 hal).mp h1).1) hp
      | succ k =>
        obtain ⟨h2, q, h3, h4⟩ := far_pred m0 hal h1
        have hq : q ∈ al := by
          by_cases e : q ∈ al
          · exact e
          · by_cases e0 : q = 0
            · exact absurd (e0 ▸ h0) e
            · rw [far_dead m0 hal e e0] at h4
              cases h4
        have := mem_steps.mpr ⟨q, h3, hq, h4⟩
        rw [h] at this
        cases this
theorem fair_some (m0 : 0 < m) (hal : ∀ x ∈ al, x < m) (h0 : 0 ∈ al) {p k : Nat} (hp : p ≠ 0) (ha : p ∈ al) (hk : k ∈ stepsOf m ps al p) (hmin : ∀ j ∈ stepsOf m ps al p, k ≤ j) : far m ps al p = some (1 + k) := by
  obtain ⟨q, h1, h2, h3⟩ := mem_steps.mp hk
  obtain ⟨j, h4, h5⟩ := far_near m0 hal ha h1 h3
  cases j with
  | zero => exact absurd (of_decide_eq_true ((far_some m0 hal).mp h4).1) hp
  | succ j =>
    obtain ⟨_, r, h6, h7⟩ := far_pred m0 hal h4
    have hr : r ∈ al := by
      by_cases e : r ∈ al
      · exact e
      · by_cases e0 : r = 0
        · exact absurd (e0 ▸ h0) e
        · rw [far_dead m0 hal e e0] at h7
          cases h7
    have := hmin j (mem_steps.mpr ⟨r, h6, hr, h7⟩)
    rw [h4]
    congr 1
    omega
/-! closed sets -/
theorem spreads_al {s : List Nat} (hs : ∀ x ∈ s, x ∈ al) : ∀ {k p : Nat}, p ∈ spreads ps al s k → p ∈ al
  | 0, p, h => hs p h
  | k + 1, p, h => (mem_spread.mp h).1
theorem spreads_le {s : List Nat} (hs : ∀ x ∈ s, x ∈ al) {k p : Nat} (h : p ∈ spreads ps al s k) : p ∈ spreads ps al s (k + 1) := mem_spread.mpr ⟨spreads_al hs h, .inl h⟩
theorem spreads_mono {s : List Nat} (hs : ∀ x ∈ s, x ∈ al) {p j : Nat} : ∀ {k : Nat}, j ≤ k → p ∈ spreads ps al s j → p ∈ spreads ps al s k
  | 0, h, h1 => by
    have : j = 0 := by omega
    exact this ▸ h1
  | k + 1, h, h1 => by
    by_cases e : j = k + 1
    · exact e ▸ h1
    · exact spreads_le hs (spreads_mono hs (by omega) h1)
/-- closed: who lives and hears one of s is in s -/
def Closed (ps : PS) (al s : List Nat) : Prop := ∀ p, p ∈ al → ∀ q, q ∈ rowOf ps p → q ∈ s → p ∈ s
theorem closed_stay {s : List Nat} (hs : ∀ x ∈ s, x ∈ al) {k : Nat} (h : ∀ p, p ∈ spreads ps al s (k + 1) → p ∈ spreads ps al s k) : ∀ {j p : Nat}, k ≤ j → p ∈ spreads ps al s j → p ∈ spreads ps al s k := by
  intro j
  induction j with
  | zero =>
    intro p hj h1
    have : k = 0 := by omega
    exact this ▸ h1
  | succ j ih =>
    intro p hj h1
    by_cases e : k = j + 1
    · exact e ▸ h1
    · obtain ⟨h2, h3 | ⟨q, h3, h4⟩⟩ := mem_spread.mp h1
      · exact ih (by omega) h3
      · exact h p (mem_spread.mpr ⟨h2, .inr ⟨q, h3, ih (by omega) h4⟩⟩)
theorem closed_end {s : List Nat} (hs : ∀ x ∈ s, x ∈ al) (hal : ∀ x ∈ al, x < m) (hne : s ≠ []) : Closed ps al (spreads ps al s m) := by
  have ex : ∃ k, k < m ∧ ∀ p, p ∈ spreads ps al s (k + 1) → p ∈ spreads ps al s k := by
    refine Classical.byContradiction fun no => ?_
    have grow : ∀ k, k ≤ m → k + 1 ≤ (List.range m).countP fun p => decide (p ∈ spreads ps al s k) := by
      intro k
      induction k with
      | zero =>
        intro _
        obtain ⟨x, hx⟩ := List.exists_mem_of_ne_nil _ hne
        exact List.countP_pos_iff.mpr ⟨x, List.mem_range.mpr (hal x (hs x hx)), decide_eq_true hx⟩
      | succ k ih =>
        intro hk
        have h1 := ih (by omega)
        have h2 : ∃ p, p ∈ spreads ps al s (k + 1) ∧ p ∉ spreads ps al s k := by
          refine Classical.byContradiction fun h3 => no ⟨k, by omega, fun p hp => Classical.byContradiction fun h4 => h3 ⟨p, hp, h4⟩⟩
        obtain ⟨p, h3, h4⟩ := h2
        have lt := count_lt (p := fun p => decide (p ∈ spreads ps al s k)) (q := fun p => decide (p ∈ spreads ps al s (k + 1))) (l := List.range m) (fun x _ hx => decide_eq_true (spreads_le hs (of_decide_eq_true hx))) ⟨p, List.mem_range.mpr (hal p (spreads_al hs h3)), decide_eq_true h3, decide_eq_false h4⟩
        omega
    have h1 := grow m (Nat.le_refl m)
    have h2 := List.countP_le_length (p := fun p => decide (p ∈ spreads ps al s m)) (l := List.range m)
    rw [List.length_range] at h2
    omega
  obtain ⟨k, hk, h⟩ := ex
  intro p hp q hq h1
  have h2 := closed_stay hs h (by omega) h1
  exact spreads_mono hs (show k ≤ m by omega) (h p (mem_spread.mpr ⟨hp, .inr ⟨q, hq, h2⟩⟩))
/-- a closed set without the root has no distance -/
theorem closed_far {s : List Nat} (m0 : 0 < m) (hal : ∀ x ∈ al, x < m) (h0 : 0 ∈ al) (hs : Closed ps al s) (hsa : ∀ x ∈ s, x ∈ al) (sym : ∀ a b, a ∈ rowOf ps b → b ∈ rowOf ps a) (n0 : 0 ∉ s) : ∀ {k p : Nat}, p ∈ s → rch ps al k p = false
  | 0, p, h => decide_eq_false fun e => n0 (e ▸ h)
  | k + 1, p, h => by
    cases q : rch ps al (k + 1) p with
    | false => rfl
    | true =>
      obtain ⟨h1, r, h2, h3⟩ := rch_succ.mp q
      have hr : r ∈ al := by
        cases k with
        | zero =>
          have : r = 0 := of_decide_eq_true h3
          exact this ▸ h0
        | succ k => exact (rch_succ.mp h3).1
      have := closed_far m0 hal h0 hs hsa sym n0 (hs r hr p (sym _ _ h2) h) (k := k)
      rw [h3] at this
      cases this
theorem row_sym (g : Good m ps) {a b : Nat} (h : a ∈ rowOf ps b) : b ∈ rowOf ps a := by
  obtain ⟨p, hp, ⟨e1, e2⟩ | ⟨e1, e2, e3⟩⟩ := mem_row.mp h
  · have := (g.lt p hp).1
    exact mem_row.mpr ⟨p, hp, .inr ⟨by omega, e2.symm, e1.symm⟩⟩
  · exact mem_row.mpr ⟨p, hp, .inl ⟨e3.symm, e2.symm⟩⟩
theorem row_ne (g : Good m ps) {a b : Nat} (h : a ∈ rowOf ps b) : a ≠ b := by
  obtain ⟨p, hp, ⟨e1, e2⟩ | ⟨e1, e2, e3⟩⟩ := mem_row.mp h <;> have := (g.lt p hp).1 <;> omega
/-- each one of a spread from one place has a neighbour in it, if it is not alone -/
theorem spread_near (g : Good m ps) {x : Nat} (hx : x ∈ al) {k r o : Nat} (hr : r ∈ spreads ps al [x] k) (ho : o ∈ spreads ps al [x] k) (ne : r ≠ o) : ∃ n, n ∈ spreads ps al [x] k ∧ n ≠ r ∧ r ∈ rowOf ps n := by
  have hs : ∀ y ∈ [x], y ∈ al := fun y hy => by rw [List.mem_singleton.mp hy]; exact hx
  have other : ∀ {k r : Nat}, r ∈ spreads ps al [x] k → r ≠ x → ∃ n, n ∈ spreads ps al [x] k ∧ n ∈ rowOf ps r := by
    intro k
    induction k with
    | zero =>
      intro r h1 h2
      exact absurd (List.mem_singleton.mp h1) h2
    | succ k ih =>
      intro r h1 h2
      obtain ⟨h3, h4 | ⟨q, h4, h5⟩⟩ := mem_spread.mp h1
      · obtain ⟨n, h5, h6⟩ := ih h4 h2
        exact ⟨n, spreads_le hs h5, h6⟩
      · exact ⟨q, spreads_le hs h5, h4⟩
  by_cases e : r = x
  · subst e
    -- the first one that is not r was brought by r
    have first : ∀ {k o : Nat}, o ∈ spreads ps al [r] k → o ≠ r → ∃ n, n ∈ spreads ps al [r] k ∧ n ≠ r ∧ r ∈ rowOf ps n := by
      intro k
      induction k with
      | zero =>
        intro o h1 h2
        exact absurd (List.mem_singleton.mp h1) h2
      | succ k ih =>
        intro o h1 h2
        obtain ⟨h3, h4 | ⟨q, h4, h5⟩⟩ := mem_spread.mp h1
        · obtain ⟨n, h5, h6⟩ := ih h4 h2
          exact ⟨n, spreads_le hs h5, h6⟩
        · by_cases e2 : q = r
          · exact ⟨o, h1, h2, e2 ▸ h4⟩
          · obtain ⟨n, h6, h7⟩ := ih h5 e2
            exact ⟨n, spreads_le hs h6, h7⟩
    exact first ho (fun z => ne z.symm)
  · obtain ⟨n, h1, h2⟩ := other hr e
    exact ⟨n, h1, row_ne g h2, row_sym g h2⟩
theorem spread_pw {s : List Nat} (pw : al.Pairwise (· < ·)) {k : Nat} (hk : 0 < k) : (spreads ps al s k).Pairwise (· < ·) := by
  obtain ⟨n, rfl⟩ : ∃ n, k = n + 1 := ⟨k - 1, by omega⟩
  exact pw.filter _
/-- what cut_holds says of closed sets, and of such without one -/
theorem cut_closed {cs : List Nat} (hc : Closed ps al cs) (hsa : ∀ x ∈ cs, x ∈ al) (pw : cs.Pairwise (· < ·)) (sym : ∀ a b, a ∈ rowOf ps b → b ∈ rowOf ps a) (n0 : 0 ∉ cs) : cutHolds ps al cs = true := by
  unfold cutHolds
  have h1 : (cs.any fun x => decide (x = 0) || !decide (x ∈ al)) = false := by
    rw [List.any_eq_false]
    intro x hx
    rw [decide_eq_false (fun e : x = 0 => n0 (e ▸ hx)), decide_eq_true (hsa x hx)]
    decide
  have h3 : ((cs.flatMap (rowOf ps)).all fun n => decide (n ∈ cs) || !decide (n ∈ al)) = true := by
    rw [List.all_eq_true]
    intro n hn
    obtain ⟨x, hx, hr⟩ := List.mem_flatMap.mp hn
    by_cases hna : n ∈ al
    · rw [decide_eq_true (hc n hna x (sym _ _ hr) hx)]
      rfl
    · rw [decide_eq_false hna]
      exact Bool.or_true _
  rw [h1, rises_of pw, h3]
  rfl
theorem cut_root {cs : List Nat} (h : 0 ∈ cs) : cutHolds ps al cs = false := by
  unfold cutHolds
  have : (cs.any fun x => decide (x = 0) || !decide (x ∈ al)) = true := List.any_eq_true.mpr ⟨0, h, rfl⟩
  rw [this]
  rfl
theorem cut_open {cs : List Nat} {n r : Nat} (hn : n ∈ cs) (hr : r ∈ rowOf ps n) (hal : r ∈ al) (hno : r ∉ cs) : cutHolds ps al cs = false := by
  unfold cutHolds
  have : ((cs.flatMap (rowOf ps)).all fun n => decide (n ∈ cs) || !decide (n ∈ al)) = false := by
    rw [List.all_eq_false]
    refine ⟨r, List.mem_flatMap.mpr ⟨n, hn, hr⟩, ?_⟩
    rw [decide_eq_false hno, decide_eq_true hal]
    decide
  rw [this]
  exact Bool.and_false _
end
end Wm
namespace Wm
open PySem PySem.Spec PyProof.Rows L2 Lf
open Evl
theorem given_gen (b : List Nat) (f : Nat → Bool) (g : Nat → V) : given b.length (fun n => f (b.getD n 0)) (fun n => g (b.getD n 0)) = (b.filter f).map g := by
  have e : b = (List.range b.length).map fun i => b.getD i 0 := by
    refine List.ext_getElem? fun i => ?_
    by_cases q : i < b.length
    · rw [List.getElem?_map, List.getElem?_range q, List.getElem?_eq_getElem q]
      show _ = some (b.getD i 0)
      rw [List.getD_eq_getElem?_getD, List.getElem?_eq_getElem q]
      rfl
    · rw [List.getElem?_eq_none (by omega), List.getElem?_eq_none (by rw [List.length_map, List.length_range]; omega)]
  unfold given
  conv => rhs; rw [e]
  rw [List.filter_map, List.map_map]
  rfl
theorem steps_given (m : Nat) (ps : PS) (al : List Nat) (p : Nat) : ((rowOf ps p).filter fun q => decide (q ∈ al) && !(far m ps al q).isNone).map (fun q => oV (far m ps al q)) = vN (stepsOf m ps al p) := by
  unfold vN stepsOf
  rw [List.map_map]
  refine List.map_congr_left fun q hq => ?_
  obtain ⟨_, h⟩ := List.mem_filter.mp hq
  rw [Bool.and_eq_true] at h
  cases h5 : far m ps al q with
  | none =>
    rw [h5] at h
    cases h.2
  | some k =>
    show V.int (k : Int) = V.int (((far m ps al q).getD 0 : Nat) : Int)
    rw [h5]
    rfl
theorem has_min : ∀ {l : List Nat}, l ≠ [] → ∃ k ∈ l, ∀ j ∈ l, k ≤ j
  | [], h => absurd rfl h
  | [x], _ => ⟨x, List.mem_singleton.mpr rfl, fun j hj => by rw [List.mem_singleton.mp hj]; exact Nat.le_refl _⟩
  | x :: y :: l, _ => by
    obtain ⟨k, hk, h⟩ := has_min (l := y :: l) (fun z => nomatch z)
    by_cases e : x ≤ k
    · exact ⟨x, List.mem_cons_self, fun j hj => by
        rcases List.mem_cons.mp hj with rfl | hj
        · exact Nat.le_refl _
        · exact Nat.le_trans e (h j hj)⟩
    · exact ⟨k, List.mem_cons_of_mem _ hk, fun j hj => by
        rcases List.mem_cons.mp hj with rfl | hj
        · omega
        · exact h j hj⟩
theorem far_cases {m : Nat} {ps : PS} {al : List Nat} (m0 : 0 < m) (hal : ∀ x ∈ al, x < m) (h0 : 0 ∈ al) {p : Nat} (hp : p ≠ 0) : (decide (p ∈ al) && !(stepsOf m ps al p).isEmpty) = true ∧ (∃ k ∈ stepsOf m ps al p, (∀ j ∈ stepsOf m ps al p, k ≤ j) ∧ far m ps al p = some (1 + k)) ∨ (decide (p ∈ al) && !(stepsOf m ps al p).isEmpty) = false ∧ far m ps al p = none := by
  by_cases h : p ∈ al
  · rw [decide_eq_true h, Bool.true_and]
    cases q : stepsOf m ps al p with
    | nil => exact .inr ⟨rfl, fair_none m0 hal h0 hp (.inr q)⟩
    | cons x xs =>
      have ne : stepsOf m ps al p ≠ [] := by rw [q]; exact fun z => nomatch z
      obtain ⟨k, hk, hm⟩ := has_min ne
      rw [← q]
      refine .inl ⟨?_, k, hk, hm, fair_some m0 hal h0 hp h hk hm⟩
      rw [q]
      rfl
  · rw [decide_eq_false h]
    exact .inr ⟨rfl, fair_none m0 hal h0 hp (.inl h)⟩
end Wm
namespace Wm
open PySem PySem.Spec PyProof.Rows L2 Lf
open Evl
theorem rep_oD {m : Nat} {ps : PS} {al : List Nat} {p : Nat} (h : m ≤ 1000) : Rep 60 1000000 (oD (far m ps al p)) := by
  cases q : far m ps al p with
  | none => exact Rep.non.mono (by decide) (by decide)
  | some k =>
    have := (dist_some.mp q).1
    exact (Rep.int (i := (k : Int)) (by show k < _; omega)).mono (by decide) (by decide)
theorem ev_min {K : PySem.W.Frag} {σ : L2.St} {H : Hp} {te : TE} {l : Addr} {s : List Nat} {k : Nat} (hl : H l = some (.lst (vN s))) (h : Ev te σ H (.ref l)) (hk : k ∈ s) (hm : ∀ j ∈ s, k ≤ j) : Ev (tCB (rMin K) (tCons te tNil)) σ H (.int (k : Int)) :=
  ev_cb (ea_cons h ea_nil) fun H2 e2 Q q => ⟨l, s.map fun n : Nat => (n : Int), rfl, by
    have e : (s.map fun n : Nat => (n : Int)).map V.int = vN s := by
      unfold vN
      rw [List.map_map]
      rfl
    rw [e]
    exact sq_of (e2 _ _ hl), by rw [List.length_map]; exact List.length_pos_of_mem hk, fun x hx hall => by
    obtain ⟨n, hn, rfl⟩ := List.mem_map.mp hx
    have h1 := hm n hn
    have h2 := hall (k : Int) (List.mem_map.mpr ⟨k, hk, rfl⟩)
    have : n = k := by omega
    rw [this]
    exact q H2 (Ex.refl _)⟩
end Wm
namespace Wm
open PySem PySem.Spec PyProof.Rows L2 Lf
open Evl
theorem vN_snoc (b : List Nat) (n : Nat) : vN (b ++ [n]) = vN b ++ [V.int (n : Int)] := by
  unfold vN
  rw [List.map_append]
  rfl
theorem vN_last (b : List Nat) (n : Nat) : atI (vN (b ++ [n])) (-1) = some (.int (n : Int)) := by
  rw [vN_snoc]
  exact atI_last _ _
/-- a road by neighbours through the living ones, from x to the root -/
structure Road (ps : PS) (al : List Nat) (x : Nat) (rs : List Nat) : Prop where
  first : rs[0]? = some x
  last : ∃ pre, rs = pre ++ [0]
  ins : ∀ y ∈ rs, y ∈ al
  adj : ∀ i y z, rs[i]? = some y → rs[i + 1]? = some z → z ∈ rowOf ps y
  few : rs.length ≤ 1000
theorem snoc_of : ∀ {l : List Nat}, l ≠ [] → ∃ pre y, l = pre ++ [y]
  | l, h => ⟨l.dropLast, l.getLast h, (List.dropLast_concat_getLast h).symm⟩
theorem far_in {m : Nat} {ps : PS} {al : List Nat} (m0 : 0 < m) (hal : ∀ x ∈ al, x < m) (h0 : 0 ∈ al) {p k : Nat} (h : far m ps al p = some k) : p ∈ al := by
  by_cases e : p ∈ al
  · exact e
  · by_cases e0 : p = 0
    · exact e0 ▸ h0
    · rw [far_dead m0 hal e e0] at h
      cases h
theorem oV_int {o : Option Nat} {k : Nat} : decide (oV o = V.int (k : Int)) = decide (o = some k) := by
  rw [decide_eq_decide]
  cases o with
  | none =>
    constructor
    · intro h
      cases h
    · intro h
      cases h
  | some j =>
    constructor
    · intro h
      have h1 : V.int (j : Int) = V.int (k : Int) := h
      have := V.int.inj h1
      congr 1
      omega
    · intro h
      rw [Option.some.inj h]
      rfl
end Wm
namespace Wm
open PySem PySem.Spec PyProof.Rows L2 Lf
theorem oV_scal (o : Option Nat) (i : Int) : scal (oV o) (V.int i) = true := by
  cases o <;> rfl
end Wm
namespace Wm
open PySem PySem.Spec PyProof.Rows L2 Lf
open Evl
theorem cutV_take (xs : List V) {j : Nat} (h : j ≤ xs.length) : cutV xs none (some (j : Int)) = xs.take j := by
  unfold cutV
  rw [HT.sIx_none, HT.sIx_nat, List.drop_zero, Nat.sub_zero, Nat.min_eq_left h]
theorem cutV_drop (xs : List V) {j : Nat} (h : j ≤ xs.length) : cutV xs (some (j : Int)) none = xs.drop j := by
  unfold cutV
  rw [HT.sIx_none, HT.sIx_nat, Nat.min_eq_left h, List.take_of_length_le (by rw [List.length_drop]; omega)]
theorem vN_take (b : List Nat) (j : Nat) : (vN b).take j = vN (b.take j) := by
  unfold vN
  rw [List.map_take]
theorem vN_drop (b : List Nat) (j : Nat) : (vN b).drop j = vN (b.drop j) := by
  unfold vN
  rw [List.map_drop]
theorem vN_app (a b : List Nat) : vN a ++ vN b = vN (a ++ b) := by
  unfold vN
  rw [List.map_append]
section
variable {m : Nat} {ps : PS} {al : List Nat}
theorem cut_empty : cutHolds ps al [] = true := rfl
/-- one taken out of a closed set of one root: not closed any more -/
theorem cut_less (g : Good m ps) {x : Nat} (hx : x ∈ al) (pw : al.Pairwise (· < ·)) {S : List Nat} (hS : S = spreads ps al [x] m) (hm : 0 < m) {j : Nat} (hj : j < S.length) (h1 : 1 < S.length) : cutHolds ps al (S.take j ++ S.drop (j + 1)) = false := by
  have hs : ∀ y ∈ [x], y ∈ al := fun y hy => by rw [List.mem_singleton.mp hy]; exact hx
  have pS : S.Pairwise (· < ·) := by rw [hS]; exact spread_pw pw hm
  have lt : ∀ a b (ha : a < S.length) (hb : b < S.length), a < b → S[a] < S[b] := fun a b ha hb hab => List.pairwise_iff_getElem.mp pS a b ha hb hab
  have mem : ∀ i (hi : i < S.length), S[i] ∈ spreads ps al [x] m := fun i hi => by
    rw [← hS]
    exact List.getElem_mem hi
  have hr := mem j hj
  have other : ∃ o, o ∈ spreads ps al [x] m ∧ S[j] ≠ o := by
    by_cases e : j = 0
    · exact ⟨S[1], mem 1 h1, by have := lt j 1 hj h1 (by omega); omega⟩
    · exact ⟨S[0], mem 0 (by omega), by have := lt 0 j (by omega) hj (by omega); omega⟩
  obtain ⟨o, ho, ne⟩ := other
  obtain ⟨n, hn, nr, hrow⟩ := spread_near g hx hr ho ne
  refine cut_open (n := n) (r := S[j]) ?_ hrow (spreads_al hs hr) ?_
  · rw [← hS] at hn
    obtain ⟨i, hi, rfl⟩ := List.mem_iff_getElem.mp hn
    rw [List.mem_append]
    by_cases e : i < j
    · exact .inl (List.mem_take_iff_getElem.mpr ⟨i, by omega, rfl⟩)
    · refine .inr (List.mem_drop_iff_getElem.mpr ⟨i - (j + 1), ?_, ?_⟩)
      · by_cases e2 : i = j
        · subst e2
          exact absurd rfl nr
        · omega
      · by_cases e2 : i = j
        · subst e2
          exact absurd rfl nr
        · have e3 : j + 1 + (i - (j + 1)) = i := by omega
          simp only [e3]
  · intro h
    rcases List.mem_append.mp h with h | h
    · obtain ⟨i, hi, e⟩ := List.mem_take_iff_getElem.mp h
      have := lt i j (by omega) hj (by omega)
      omega
    · obtain ⟨i, hi, e⟩ := List.mem_drop_iff_getElem.mp h
      have := lt j (j + 1 + i) hj (by omega) (by omega)
      omega
end
end Wm
end
section
set_option Elab.async false
set_option linter.all false
set_option maxRecDepth 100000
set_option maxHeartbeats 4000000
/-! Ls: targets with a star, a tuple unpacked. -/
namespace Lf
open PySem PySem.Spec PyProof.Rows L2
open Evl
section
variable {prog : Program} {w : World} {A : Around} {E : Value → Shared → Prop} {I : Addr} {fp wr : List Addr} {G : Array GenState → Array GenState → Prop} {n : Nat} {P : Nat → Value → Prop} {St : Nat → Shared → Prop}
theorem walks_shift (W : WalksS prog w A I fp wr G n P St) (i : Nat) (hi : i ≤ n) : WalksS prog w A I fp wr G (n - i) (fun j => P (i + j)) (fun j => St (i + j)) where
  sub := W.sub
  grefl := W.grefl
  gtrans := W.gtrans
  frame := fun j s h' tk => W.frame (i + j) s h' tk
  item := fun j s Q E hj st hQ => W.item (i + j) s Q E (by omega) st fun v s' hp hs m => hQ v s' hp (by rw [← Nat.add_assoc]; exact hs) m
  done := fun s Q E st hQ => W.done s Q E (by rw [show i + (n - i) = n by omega] at st; exact st) hQ
  self := fun j s Q E st hQ => W.self (i + j) s Q E st hQ
theorem draw_walk (W : WalksS prog w A I fp wr G n P St) : ∀ (m i : Nat) (s : Shared) (Q : List Value → Shared → Prop), St i s → i + m ≤ n → (∀ out s', Moved wr G s s' → St (i + m) s' → out.length = m → (∀ j v, out[j]? = some v → P (i + j) v) → Q out s') → wpAny (model prog w) A (draw (.ref I) m) Q E s
  | 0, i, s, Q, st, _, h => by
    show wpAny _ _ (pure []) Q E s
    exact wpAny_pure (h [] s (Moved.refl W.grefl) st rfl fun j v hj => by simp at hj)
  | m + 1, i, s, Q, st, hle, h => by
    show wpAny _ _ (pyNext (.ref I) >>= _) Q E s
    refine wpAny_bind (W.item i s _ _ (by omega) st fun v s1 hp st1 m1 => ?_)
    refine wpAny_bind (wpAny_holding (draw_walk W m (i + 1) s1 _ st1 (by omega) fun out s2 m2 st2 hl hv => wpAny_pure ?_))
    refine h (v :: out) s2 (Moved.trans W.gtrans m1 m2) (by rw [show i + (m + 1) = i + 1 + m by omega]; exact st2) (by rw [List.length_cons, hl]) fun j u hj => ?_
    cases j with
    | zero => simp at hj; subst hj; exact hp
    | succ j =>
      have := hv j u (by simpa using hj)
      rw [show i + (j + 1) = i + 1 + j by omega]
      exact this
theorem out_eq {vs : Array Value} {out : List Value} {i m : Nat} (hl : out.length = m) (hle : i + m ≤ vs.size) (h : ∀ j v, out[j]? = some v → vs[i + j]? = some v) : out = (vs.toList.drop i).take m := by
  refine List.ext_getElem? fun j => ?_
  by_cases hj : j < m
  · have e : out[j]? = some out[j] := List.getElem?_eq_getElem (by omega)
    have := h j _ e
    rw [e, List.getElem?_take, if_pos hj, List.getElem?_drop, Array.getElem?_toList]
    exact this.symm
  · rw [List.getElem?_eq_none (by omega), List.getElem?_eq_none]
    rw [List.length_take, List.length_drop, Array.length_toList]
    omega
theorem unpack_star {s : Shared} {t : Addr} {vs : Array Value} {m i : Nat} {Q : List Value → Shared → Prop} (hh : A.handled = none) (ht : s.heap.IsTuple t vs) (hi : i < m) (hsz : m - 1 ≤ vs.size) (hz : vs.size ≤ sizeLine)
    (h : ∀ (h' : Heap) (tk : Nat), (∀ b o, s.heap.get? b = some o → h'.get? b = some o) → Q (vs.toList.take i ++ [.ref h'.objs.size] ++ vs.toList.drop (vs.size - (m - 1 - i))) { s with heap := h'.push { cls := .type "list", data := .seq ((vs.toList.drop i).take (vs.size - (m - 1))).toArray }, toks := tk }) :
    wpAny (model prog w) A (unpackItems (.ref t) m (some i)) Q E s := by
  unfold unpackItems
  refine wpAny_bind ?_
  · unfold notIterableAtAll
    have hT : s.TypeIs (.ref t) "tuple" := let ⟨o, ho, hc, _⟩ := ht; ⟨o, ho, hc⟩
    refine wpAny_bind (wpAny_specialOf hT slot_tuple_iter.lookup ?_)
    refine wpAny_pure ?_
    simp only [Bool.false_eq_true, if_false]
    refine wpAny_bind (wpAny_holding (PySem.W.iter_tupleW (A := A) hh ht fun s2 e2 W st hfp hw hk => ?_))
    refine wpAny_bind (wpAny_holding (draw_walk W i 0 s2 _ st (by omega) fun out s3 m3 st3 hl hv => ?_))
    have eo := out_eq (vs := vs) (i := 0) hl (by omega) (fun j v hj => by have := hv j v hj; exact this)
    rw [if_neg (by omega)]
    have hlt : t ≠ s.heap.objs.size := by obtain ⟨o, ho, _⟩ := ht; exact Nat.ne_of_lt (Heap.lt_size ho)
    have W1 : WalksS prog w A.in1 s.heap.objs.size [s.heap.objs.size, t] [s.heap.objs.size] (fun a b => b = a) vs.size (fun i v => vs[i]? = some v) (fun i s' => s'.heap.IsTupleIter s.heap.objs.size t i ∧ s'.heap.IsTuple t vs) := (Walks.tuple (A := A.in1) hh s.heap.objs.size t hlt vs).toS
    have W2 := walks_shift W1 i (by omega)
    refine wpAny_bind (wpAny_holding (wpAny_collect_iter (T := "tuple_iterator") (.inr (.inr (.inr rfl))) W2 (fun j s' hs => let ⟨o, ho, hc, _⟩ := hs.1; ⟨o, ho, hc⟩) (by rw [Nat.zero_add] at st3; exact st3) (fun b hb => ?_) (by simp) (fun s4 acc m4 hacc => ?_) (by omega)))
    · obtain ⟨⟨o, ho, _⟩, ⟨o2, ho2, _⟩⟩ := st3
      rcases List.mem_cons.mp hb with rfl | hb
      · exact Heap.lt_size ho
      · rw [List.mem_singleton.mp hb]
        exact Heap.lt_size ho2
    · have ea := out_eq (vs := vs) (i := i) (out := acc.toList) (m := vs.size - i) (by rw [Array.length_toList]; exact hacc.1) (by omega) (fun j v hj => hacc.2 j v (by rw [← Array.getElem?_toList]; exact hj))
      have er : acc.toList = vs.toList.drop i := by
        rw [ea]
        exact List.take_of_length_le (by rw [List.length_drop, Array.length_toList]; omega)
      have elen : acc.toList.length = vs.size - i := by rw [er, List.length_drop, Array.length_toList]
      rw [if_neg (by omega)]
      obtain ⟨h', tk, rfl, hk'⟩ := PySem.W.moved_old e2 rfl (Moved.trans (fun a b c h1 h2 => h2.trans h1) m3 m4)
      refine wpAny_bind (wpAny_newObj_type ?_ (by
        show _ ≤ sizeLine
        rw [List.size_toArray, List.length_take]
        omega))
      refine wpAny_pure ?_
      have := h h' tk hk'
      have e1 : out = vs.toList.take i := by rw [eo]; rfl
      have e3 : acc.toList.length - (m - 1 - i) = vs.size - (m - 1) := by omega
      have e4 : acc.toList.drop (acc.toList.length - (m - 1 - i)) = vs.toList.drop (vs.size - (m - 1 - i)) := by
        rw [er, List.drop_drop, List.length_drop, Array.length_toList]
        congr 1
        omega
      rw [e1, e4, e3, er]
      exact this
theorem assign_star {s : Shared} {env : Env} {elts : List Expr} {x1} {pos : Pos} {t : Addr} {vs : Array Value} {m i : Nat} {Q : Unit → Shared → Prop} (hh : A.handled = none) (ht : s.heap.IsTuple t vs) (hn : (assignEach elts env).length = m) (hst : (assignEach elts env).findIdx? (·.1) = some i) (hi : i < m) (hsz : m - 1 ≤ vs.size) (hz : vs.size ≤ sizeLine)
    (h : ∀ (h' : Heap) (tk : Nat), (∀ b o, s.heap.get? b = some o → h'.get? b = some o) → wpAny (model prog w) A (assignInOrder ((assignEach elts env).map (·.2)) (vs.toList.take i ++ [.ref h'.objs.size] ++ vs.toList.drop (vs.size - (m - 1 - i)))) Q E { s with heap := h'.push { cls := .type "list", data := .seq ((vs.toList.drop i).take (vs.size - (m - 1))).toArray }, toks := tk }) :
    wpAny (model prog w) A (assign (.Tuple elts x1 pos) env (.ref t)) Q E s := by
  rw [assign_Tuple]
  refine wpAny_bind (wpAny_standAt ?_)
  unfold unpack
  rw [hn, hst]
  exact wpAny_bind (wpAny_holding (unpack_star hh ht hi hsz hz h))
end
section
variable {X : Cx} {e : Expr} {es : List Expr} {t : TG} {u : TGs} {p pos : Pos} {K : PySem.W.Frag}
/-- .. , *name, .. -/
theorem pgs_star (h1 : PG X e t) (h2 : PGs X es u) (hs : (assignEach (.Starred e p :: es) X.env).map (·.2) = assign e X.env :: (assignEach es X.env).map (·.2) := by rfl) : PGs X (.Starred e p :: es) (gCons t u) := by
  refine ⟨fun pins s σ H vs us Q I r h => ?_⟩
  obtain ⟨v, vr, e1, h⟩ := h
  subst e1
  cases r with
  | cons r rr =>
    rw [hs]
    refine assignInOrder_cons (thn (h1.run pins s σ H _ _ _ I r h) fun _ s1 ⟨σ1, H1, I1, q1⟩ => ?_)
    exact h2.run pins s1 σ1 H1 _ _ Q I1 rr q1
/-- a, *b, c = a tuple: m targets, the i-th with the star -/
def gStar (K : PySem.W.Frag) (m i : Nat) (t : TGs) : TG := fun v σ H Q => ∃ a xs, v = .ref a ∧ SqT K H a xs ∧ m - 1 ≤ xs.length ∧ ∀ l, H l = none → t (xs.take i ++ [.ref l] ++ xs.drop (xs.length - (m - 1 - i))) σ (upd H l (.lst ((xs.drop i).take (xs.length - (m - 1))))) Q
theorem vals_take {xs : List V} {us : List Value} (r : Vals xs us) (n : Nat) : Vals (xs.take n) (us.take n) := by
  induction r generalizing n with
  | nil => simp; exact .nil
  | cons h t ih =>
    cases n with
    | zero => exact .nil
    | succ n => exact .cons h (ih n)
theorem vals_drop {xs : List V} {us : List Value} (r : Vals xs us) (n : Nat) : Vals (xs.drop n) (us.drop n) := by
  induction r generalizing n with
  | nil => simp; exact .nil
  | cons h t ih =>
    cases n with
    | zero => exact .cons h t
    | succ n => exact ih n
theorem pg_star {kk m i : Nat} {t : TGs} (k : X.K = K) (hc : X.calm = true) (h : PGs X es t) (hn : (assignEach es X.env).length = m := by rfl) (hst : (assignEach es X.env).findIdx? (·.1) = some i := by rfl) (hi : i < m := by decide) : PG X (.Tuple es kk pos) (gStar K m i t) := by
  subst k
  refine ⟨fun pins s σ H v u Q I r hw => ?_⟩
  obtain ⟨a, xs, e1, hq, hl, hw⟩ := hw
  subst e1
  cases r
  obtain ⟨its, rv, ht, hz⟩ := I.tuple hq
  have el := rv.length
  have ht2 : s.heap.IsTuple a its.toArray := ht
  refine assign_star (I.ok.hd hc) ht2 hn hst hi (by rw [List.size_toArray, ← el]; exact hl) (by rw [List.size_toArray, ← el]; exact hz) fun h' tk hk => ?_
  have I1 : Inv X pins σ H { s with heap := h', toks := tk } := I.kept (t' := tk) hk
  have hp := I1.hok.fresh (Nat.le_refl h'.objs.size)
  have I2 : Inv X pins σ (upd H h'.objs.size (.lst ((xs.drop i).take (xs.length - (m - 1))))) { s with heap := h'.push { cls := .type "list", data := .seq ((its.toArray.toList.drop i).take (its.toArray.size - (m - 1))).toArray }, toks := tk } := by
    refine I1.laid (t' := tk) (a := h'.objs.size) (fun b o e => Heap.get?_push_of_some _ e) (Nat.le_refl _) ?_
    refine ⟨?_, (its.drop i).take (its.length - (m - 1)), 0, ?_, ?_⟩
    · rw [List.length_take, List.length_drop]
      omega
    · rw [el]
      exact vals_take (vals_drop rv i) _
    · show (h'.push _).get? _ = _
      rw [Heap.get?_push_size _ rfl]
      rw [List.size_toArray]
  have r1 : Vals [V.ref h'.objs.size] [Value.ref h'.objs.size] := .cons rfl .nil
  have r2 := ((vals_take rv i).append r1).append (vals_drop rv (xs.length - (m - 1 - i)))
  have es2 : its.toArray.size = xs.length := by rw [List.size_toArray, el]
  rw [← es2] at r2
  exact h.run pins _ σ _ _ _ Q I2 (by rw [← es2]; exact r2) (hw _ hp)
end
end Lf
end
section
set_option Elab.async false
set_option linter.all false
set_option maxRecDepth 100000
set_option maxHeartbeats 4000000
namespace K28
local macro_rules | `(tactic| walk_at "pos") => `(tactic| (show (0 : Int) < _; first | decide | omega))
open PySem PySem.Spec PyProof.Rows L2 Lf 
open Evl
local macro_rules | `(tactic| walk_at "lk") => `(tactic| (simp (disch := decide +kernel) only [lk_hit, lk_miss, lk_nil]))
local macro_rules | `(tactic| walk_at "pf") => `(tactic| (simp (disch := decide +kernel) only [pf_hit, pf_miss, pf_nil]))
def topS (i : Nat) : Stmt := PySem.Challenge.pw_listenfield_k28_whole_room_for_all.main.body.getD i (.Pass ⟨0, 0, 0, 0⟩)
abbrev s_number_of : Stmt := topS 7
abbrev ns_number_of : List Str := ["thing", "ahead", "behind"]
theorem sc_number_of : FnScope ns_number_of ["thing"] (defScope s_number_of) := ⟨rfl, rfl, rfl, by decide +kernel, rfl, by decide +kernel, by decide +kernel⟩
abbrev s_text_of : Stmt := topS 8
abbrev ns_text_of : List Str := ["thing"]
theorem sc_text_of : FnScope ns_text_of ["thing"] (defScope s_text_of) := ⟨rfl, rfl, rfl, by decide +kernel, rfl, by decide +kernel, by decide +kernel⟩
abbrev s_tuple_of : Stmt := topS 9
abbrev ns_tuple_of : List Str := ["thing"]
theorem sc_tuple_of : FnScope ns_tuple_of ["thing"] (defScope s_tuple_of) := ⟨rfl, rfl, rfl, by decide +kernel, rfl, by decide +kernel, by decide +kernel⟩
abbrev s_list_of : Stmt := topS 10
abbrev ns_list_of : List Str := ["thing"]
theorem sc_list_of : FnScope ns_list_of ["thing"] (defScope s_list_of) := ⟨rfl, rfl, rfl, by decide +kernel, rfl, by decide +kernel, by decide +kernel⟩
abbrev s_is_within : Stmt := topS 14
abbrev ns_is_within : List Str := ["thing", "least", "most", "number"]
theorem sc_is_within : FnScope ns_is_within ["thing", "least", "most"] (defScope s_is_within) := ⟨rfl, rfl, rfl, by decide +kernel, rfl, by decide +kernel, by decide +kernel⟩
abbrev s_is_size : Stmt := topS 15
abbrev ns_is_size : List Str := ["thing"]
theorem sc_is_size : FnScope ns_is_size ["thing"] (defScope s_is_size) := ⟨rfl, rfl, rfl, by decide +kernel, rfl, by decide +kernel, by decide +kernel⟩
abbrev s_is_plan : Stmt := topS 16
abbrev ns_is_plan : List Str := ["thing", "signs", "sign"]
theorem sc_is_plan : FnScope ns_is_plan ["thing"] (defScope s_is_plan) := ⟨rfl, rfl, rfl, by decide +kernel, rfl, by decide +kernel, by decide +kernel⟩
abbrev s_rises : Stmt := topS 17
abbrev ns_rises : List Str := ["things", "ahead", "behind"]
theorem sc_rises : FnScope ns_rises ["things"] (defScope s_rises) := ⟨rfl, rfl, rfl, by decide +kernel, rfl, by decide +kernel, by decide +kernel⟩
abbrev s_pairs_of : Stmt := topS 22
abbrev ns_pairs_of : List Str := ["many", "thing", "things", "pairs", "each"]
theorem sc_pairs_of : FnScope ns_pairs_of ["many", "thing"] (defScope s_pairs_of) := ⟨rfl, rfl, rfl, by decide +kernel, rfl, by decide +kernel, by decide +kernel⟩
abbrev s_pair_of : Stmt := topS 23
abbrev ns_pair_of : List Str := ["many", "thing", "parts", "lesser", "greater", "part"]
theorem sc_pair_of : FnScope ns_pair_of ["many", "thing"] (defScope s_pair_of) := ⟨rfl, rfl, rfl, by decide +kernel, rfl, by decide +kernel, by decide +kernel⟩
abbrev s_near_lists : Stmt := topS 24
abbrev ns_near_lists : List Str := ["many", "pairs", "near", "lesser", "greater", "_"]
theorem sc_near_lists : FnScope ns_near_lists ["many", "pairs"] (defScope s_near_lists) := ⟨rfl, rfl, rfl, by decide +kernel, rfl, by decide +kernel, by decide +kernel⟩
abbrev s_least_free : Stmt := topS 25
abbrev ns_least_free : List Str := ["barred", "number"]
theorem sc_least_free : FnScope ns_least_free ["barred"] (defScope s_least_free) := ⟨rfl, rfl, rfl, by decide +kernel, rfl, by decide +kernel, by decide +kernel⟩
abbrev s_places_of : Stmt := topS 31
abbrev ns_places_of : List Str := ["many", "thing", "drift", "things", "most", "places", "each"]
theorem sc_places_of : FnScope ns_places_of ["many", "thing", "drift"] (defScope s_places_of) := ⟨rfl, rfl, rfl, by decide +kernel, rfl, by decide +kernel, by decide +kernel⟩
abbrev s_place_of : Stmt := topS 32
abbrev ns_place_of : List Str := ["thing", "most", "parts", "rate", "error", "bound", "energy", "plan", "reach"]
theorem sc_place_of : FnScope ns_place_of ["thing", "most"] (defScope s_place_of) := ⟨rfl, rfl, rfl, by decide +kernel, rfl, by decide +kernel, by decide +kernel⟩
abbrev s_lw_bag : Stmt := topS 34
abbrev ns_lw_bag : List Str := ["_law_script", "_law_cell"]
theorem sc_lw_bag : FnScope ns_lw_bag ["_law_script"] (defScope s_lw_bag) := ⟨rfl, rfl, rfl, by decide +kernel, rfl, by decide +kernel, by decide +kernel⟩
abbrev s_lw_take : Stmt := topS 35
abbrev ns_lw_take : List Str := ["_law_bag_here", "_law_many", "_law_cell", "_law_value", "_law_first", "_law_second"]
theorem sc_lw_take : FnScope ns_lw_take ["_law_bag_here", "_law_many"] (defScope s_lw_take) := ⟨rfl, rfl, rfl, by decide +kernel, rfl, by decide +kernel, by decide +kernel⟩
abbrev s_lw_pairs : Stmt := topS 36
abbrev ns_lw_pairs : List Str := ["_law_bag_here", "_law_many", "_law_way", "_law_pairs_here", "_law_a", "_law_b"]
theorem sc_lw_pairs : FnScope ns_lw_pairs ["_law_bag_here", "_law_many"] (defScope s_lw_pairs) := ⟨rfl, rfl, rfl, by decide +kernel, rfl, by decide +kernel, by decide +kernel⟩
abbrev s_lw_near : Stmt := topS 37
abbrev ns_lw_near : List Str := ["_law_pairs_here", "_law_place_here", "_law_a", "_law_b"]
theorem sc_lw_near : FnScope ns_lw_near ["_law_pairs_here", "_law_place_here"] (defScope s_lw_near) := ⟨rfl, rfl, rfl, by decide +kernel, rfl, by decide +kernel, by decide +kernel⟩
abbrev s_lw_clash : Stmt := topS 38
abbrev ns_lw_clash : List Str := ["_law_pairs_here", "_law_one", "_law_other", "_law_near_here", "_law_third"]
theorem sc_lw_clash : FnScope ns_lw_clash ["_law_pairs_here", "_law_one", "_law_other"] (defScope s_lw_clash) := ⟨rfl, rfl, rfl, by decide +kernel, rfl, by decide +kernel, by decide +kernel⟩
abbrev s_lw_slots : Stmt := topS 39
abbrev ns_lw_slots : List Str := ["_law_pairs_here", "_law_many", "_law_found", "_law_place_here", "_law_barred", "_law_one", "_law_slot"]
theorem sc_lw_slots : FnScope ns_lw_slots ["_law_pairs_here", "_law_many"] (defScope s_lw_slots) := ⟨rfl, rfl, rfl, by decide +kernel, rfl, by decide +kernel, by decide +kernel⟩
abbrev s_lw_numbers : Stmt := topS 42
abbrev ns_lw_numbers : List Str := ["_law_bag_here", "_law_pairs_here", "_law_many", "_law_wide", "_law_silence", "_law_half", "_law_safe", "_law_slack", "_law_shake", "_law_far", "_law_costs", "_law_k"]
theorem sc_lw_numbers : FnScope ns_lw_numbers ["_law_bag_here", "_law_pairs_here", "_law_many"] (defScope s_lw_numbers) := ⟨rfl, rfl, rfl, by decide +kernel, rfl, by decide +kernel, by decide +kernel⟩
abbrev s_lw_speeches : Stmt := topS 43
abbrev ns_lw_speeches : List Str := ["_law_bag_here", "_law_terms", "_law_many", "_law_found", "_law_wide", "_law_safe", "_law_slots_here", "_law_turn", "_law_place_here", "_law_error", "_law_begin"]
theorem sc_lw_speeches : FnScope ns_lw_speeches ["_law_bag_here", "_law_terms", "_law_many"] (defScope s_lw_speeches) := ⟨rfl, rfl, rfl, by decide +kernel, rfl, by decide +kernel, by decide +kernel⟩
abbrev s_lw_right : Stmt := topS 44
abbrev ns_lw_right : List Str := ["_law_terms", "_law_pairs_here", "_law_speeches_here", "_law_wide", "_law_place_here", "_law_turn", "_law_slot", "_law_begin", "_law_end", "_law_k", "_law_j", "_law_one", "_law_other", "_law_apart"]
theorem sc_lw_right : FnScope ns_lw_right ["_law_terms", "_law_pairs_here", "_law_speeches_here"] (defScope s_lw_right) := ⟨rfl, rfl, rfl, by decide +kernel, rfl, by decide +kernel, by decide +kernel⟩
abbrev s_law : Stmt := topS 45
abbrev ns_law : List Str := ["_law_script", "_law_bag_here", "_law_k", "_law_many", "_law_pairs_here", "_law_silence", "_law_far", "_law_shake", "_law_safe", "_law_places", "_law_terms"]
theorem sc_law : FnScope ns_law ["_law_script"] (defScope s_law) := ⟨rfl, rfl, rfl, by decide +kernel, rfl, by decide +kernel, by decide +kernel⟩
abbrev s_Web__init : Stmt := inClass (topS 21) 0
abbrev ns_Web__init : List Str := ["self", "many", "pairs"]
theorem sc_Web__init : FnScope ns_Web__init ["self", "many", "pairs"] (defScope s_Web__init) := ⟨rfl, rfl, rfl, by decide +kernel, rfl, by decide +kernel, by decide +kernel⟩
abbrev s_Web_many : Stmt := inClass (topS 21) 1
abbrev ns_Web_many : List Str := ["self"]
theorem sc_Web_many : FnScope ns_Web_many ["self"] (defScope s_Web_many) := ⟨rfl, rfl, rfl, by decide +kernel, rfl, by decide +kernel, by decide +kernel⟩
abbrev s_Web_slots : Stmt := inClass (topS 21) 5
abbrev ns_Web_slots : List Str := ["self", "told", "place", "barred", "lesser"]
theorem sc_Web_slots : FnScope ns_Web_slots ["self"] (defScope s_Web_slots) := ⟨rfl, rfl, rfl, by decide +kernel, rfl, by decide +kernel, by decide +kernel⟩
abbrev s_Web_clashes : Stmt := inClass (topS 21) 9
abbrev ns_Web_clashes : List Str := ["self", "one", "other"]
theorem sc_Web_clashes : FnScope ns_Web_clashes ["self", "one", "other"] (defScope s_Web_clashes) := ⟨rfl, rfl, rfl, by decide +kernel, rfl, by decide +kernel, by decide +kernel⟩
abbrev s_Web_touches : Stmt := inClass (topS 21) 10
abbrev ns_Web_touches : List Str := ["self", "place", "places", "near"]
theorem sc_Web_touches : FnScope ns_Web_touches ["self", "place", "places"] (defScope s_Web_touches) := ⟨rfl, rfl, rfl, by decide +kernel, rfl, by decide +kernel, by decide +kernel⟩
abbrev s_Terms__init : Stmt := inClass (topS 30) 0
abbrev ns_Terms__init : List Str := ["self", "web", "places", "quiet", "drift", "jitter", "guard", "listen", "speak", "item", "told", "at", "size"]
theorem sc_Terms__init : FnScope ns_Terms__init ["self", "web", "places", "quiet", "drift", "jitter", "guard", "listen", "speak", "item"] (defScope s_Terms__init) := ⟨rfl, rfl, rfl, by decide +kernel, rfl, by decide +kernel, by decide +kernel⟩
abbrev s_Terms_many : Stmt := inClass (topS 30) 3
abbrev ns_Terms_many : List Str := ["self"]
theorem sc_Terms_many : FnScope ns_Terms_many ["self"] (defScope s_Terms_many) := ⟨rfl, rfl, rfl, by decide +kernel, rfl, by decide +kernel, by decide +kernel⟩
abbrev s_Terms_width : Stmt := inClass (topS 30) 5
abbrev ns_Terms_width : List Str := ["self"]
theorem sc_Terms_width : FnScope ns_Terms_width ["self"] (defScope s_Terms_width) := ⟨rfl, rfl, rfl, by decide +kernel, rfl, by decide +kernel, by decide +kernel⟩
structure Top (K : PySem.W.Frag) (mg : Str → Option Value) (base : Heap) (CWeb CTerms cT pT : Addr) : Prop where
  tb : GxR.TabB base mg cT pT
  n_abs : mg "abs" = none
  n_all : mg "all" = none
  n_any : mg "any" = none
  n_bool : mg "bool" = none
  n_enumerate : mg "enumerate" = none
  n_int : mg "int" = none
  n_isinstance : mg "isinstance" = none
  n_len : mg "len" = none
  n_list : mg "list" = none
  n_max : mg "max" = none
  n_range : mg "range" = none
  n_sorted : mg "sorted" = none
  n_str : mg "str" = none
  n_tuple : mg "tuple" = none
  n_zip : mg "zip" = none
  n_LARGEST_SIZE : ∃ u, mg "LARGEST_SIZE" = some u ∧ RelV (.int (1000000000)) u
  n_LONGEST_PLAN : ∃ u, mg "LONGEST_PLAN" = some u ∧ RelV (.int (8)) u
  n_FEWEST : ∃ u, mg "FEWEST" = some u ∧ RelV (.int (2)) u
  n_MOST : ∃ u, mg "MOST" = some u ∧ RelV (.int (10)) u
  n_TURN_UNITS : ∃ u, mg "TURN_UNITS" = some u ∧ RelV (.int (1000000)) u
  n_MOST_QUIET : ∃ u, mg "MOST_QUIET" = some u ∧ RelV (.int (20)) u
  n_PLACE_PARTS : ∃ u, mg "PLACE_PARTS" = some u ∧ RelV (.int (5)) u
  d_number_of : Df K mg "number_of" s_number_of ["thing"]
  d_text_of : Df K mg "text_of" s_text_of ["thing"]
  d_tuple_of : Df K mg "tuple_of" s_tuple_of ["thing"]
  d_list_of : Df K mg "list_of" s_list_of ["thing"]
  d_is_within : Df K mg "is_within" s_is_within ["thing", "least", "most"]
  d_is_size : Df K mg "is_size" s_is_size ["thing"]
  d_is_plan : DfC K mg "is_plan" s_is_plan ["thing"] cT
  d_rises : Df K mg "rises" s_rises ["things"]
  d_pairs_of : Df K mg "pairs_of" s_pairs_of ["many", "thing"]
  d_pair_of : Df K mg "pair_of" s_pair_of ["many", "thing"]
  d_near_lists : Df K mg "near_lists" s_near_lists ["many", "pairs"]
  d_least_free : Df K mg "least_free" s_least_free ["barred"]
  d_places_of : Df K mg "places_of" s_places_of ["many", "thing", "drift"]
  d_place_of : Df K mg "place_of" s_place_of ["thing", "most"]
  d_lw_bag : Df K mg "_law_bag" s_lw_bag ["_law_script"]
  d_lw_take : Df K mg "_law_take" s_lw_take ["_law_bag_here", "_law_many"]
  d_lw_pairs : Df K mg "_law_pairs" s_lw_pairs ["_law_bag_here", "_law_many"]
  d_lw_near : Df K mg "_law_near" s_lw_near ["_law_pairs_here", "_law_place_here"]
  d_lw_clash : Df K mg "_law_clash" s_lw_clash ["_law_pairs_here", "_law_one", "_law_other"]
  d_lw_slots : Df K mg "_law_slots" s_lw_slots ["_law_pairs_here", "_law_many"]
  d_lw_numbers : Df K mg "_law_numbers" s_lw_numbers ["_law_bag_here", "_law_pairs_here", "_law_many"]
  d_lw_speeches : Df K mg "_law_speeches" s_lw_speeches ["_law_bag_here", "_law_terms", "_law_many"]
  d_lw_right : Df K mg "_law_right" s_lw_right ["_law_terms", "_law_pairs_here", "_law_speeches_here"]
  cl_Web : Cls K CWeb
  hm_Web : mg "Web" = some (.ref CWeb)
  mk_Web : ∀ f, Meth K CWeb "__init__" f → Mk K CWeb f
  i_Web : C8.InsC K CWeb
  a_Web_many : NoAttr K CWeb "_many"
  a_Web_pairs : NoAttr K CWeb "_pairs"
  a_Web_near : NoAttr K CWeb "_near"
  d_Web__init : Md K CWeb "__init__" "Web.__init__" s_Web__init ["self", "many", "pairs"]
  d_Web_many : Md K CWeb "many" "Web.many" s_Web_many ["self"]
  d_Web_slots : Md K CWeb "slots" "Web.slots" s_Web_slots ["self"]
  d_Web_clashes : Md K CWeb "_clashes" "Web._clashes" s_Web_clashes ["self", "one", "other"]
  d_Web_touches : Md K CWeb "_touches" "Web._touches" s_Web_touches ["self", "place", "places"]
  cl_Terms : Cls K CTerms
  hm_Terms : mg "Terms" = some (.ref CTerms)
  mk_Terms : ∀ f, Meth K CTerms "__init__" f → Mk K CTerms f
  a_Termsweb : NoAttr K CTerms "web"
  a_Terms_slots_many : NoAttr K CTerms "_slots_many"
  a_Terms_places : NoAttr K CTerms "_places"
  a_Termsquiet : NoAttr K CTerms "quiet"
  a_Termsdrift : NoAttr K CTerms "drift"
  a_Termsjitter : NoAttr K CTerms "jitter"
  a_Termsguard : NoAttr K CTerms "guard"
  a_Termslisten : NoAttr K CTerms "listen"
  a_Termsspeak : NoAttr K CTerms "speak"
  a_Termsitem : NoAttr K CTerms "item"
  d_Terms__init : MdK K CTerms "Terms.__init__" s_Terms__init ["self", "web", "places", "quiet", "drift", "jitter", "guard", "listen", "speak", "item"] 2 ["quiet", "drift", "jitter", "guard"] (fun vs zs => vs ++ (zs ++ [.int (0), .int (0), .int (0)]))
  d_Terms_many : Md K CTerms "many" "Terms.many" s_Terms_many ["self"]
  d_Terms_width : Md K CTerms "width" "Terms.width" s_Terms_width ["self"]
end K28
end
section
set_option Elab.async false
set_option linter.all false
set_option maxRecDepth 100000
set_option maxHeartbeats 4000000
namespace K28
local macro_rules | `(tactic| walk_at "pos") => `(tactic| (show (0 : Int) < _; first | decide | omega))
open PySem PySem.Spec PyProof.Rows L2 Lf 
open Evl
local macro_rules | `(tactic| walk_at "lk") => `(tactic| (simp (disch := decide +kernel) only [lk_hit, lk_miss, lk_nil]))
local macro_rules | `(tactic| walk_at "pf") => `(tactic| (simp (disch := decide +kernel) only [pf_hit, pf_miss, pf_nil]))
section
variable {P : Program} {w : World} {K : PySem.W.Frag} {mg : Str → Option Value} {base : Heap} {CWeb CTerms cT pT : Addr} (T : Top K mg base CWeb CTerms cT pT)
include T
theorem c_lw_take : Cal P w K mg base CX0 1 "_law_take" spTk := by
  refine T.d_lw_take.cal sc_lw_take (fun vs H Q E h => ?_) (fun f cdv A outer s H vs Q E g hr h => ?_)
  · obtain ⟨b, many, rfl, _⟩ := h
    rfl
  · obtain ⟨⟨b, c⟩, many, rfl, ⟨x, y, z, ns, hb, hc, hx, ⟨hy, hy2⟩, hz, hn⟩, ⟨hm, hm2⟩, k⟩ := h
    refine ⟨_, (C8.pss_cut (ps_if (pt_cmpR op_eq (pe_ix (kix (K := K) (r := rIxL) ix_list rfl) (pv 0) pe_int (fun _ _ => rfl)) pe_int (nomark _)) (pss_cons (ps_set (i := 2) sc_lw_take.nd rfl (Or.inl rfl) pe_int)
        (C8.pss_cut (ps_if (pt_cmpR op_lt (pe_ix (kix (K := K) (r := rIxL) ix_list rfl) (pv 0) pe_int (fun _ _ => rfl)) (pe_callB (k_len (K := K) rfl) (by rfl) T.n_len PySem.boot_len (pa_cons (pe_ix (kix (K := K) (r := rIxL) ix_list rfl) (pv 0) pe_int (fun _ _ => rfl)) pa_nil)) (nomark _)) (pss_one (ps_set (i := 2) sc_lw_take.nd rfl (Or.inl rfl) (pe_ix (kix (K := K) (r := rIxL) ix_list rfl) (pe_ix (kix (K := K) (r := rIxL) ix_list rfl) (pv 0) pe_int (fun _ _ => rfl)) (pe_ix (kix (K := K) (r := rIxL) ix_list rfl) (pv 0) pe_int (fun _ _ => rfl)) (fun _ _ => rfl)))) pss_nil)
        (pss_cons (ps_augS (pv 0) pe_int get_list pe_int ip_add set_list)
        (C8.pss_cut (ps_if (pt_cmpR op_ge (pv 2) pe_int (nomark _)) (pss_one (ps_asg (pv 2) (pg_sub (pv 0) pe_int set_list))) pss_nil)
        (pss_one (ps_asg (pe_op op_mod (pe_op op_add (pe_op op_add (pe_op op_mul (pe_ix (kix (K := K) (r := rIxL) ix_list rfl) (pv 0) pe_int (fun _ _ => rfl)) pe_int) (pe_op op_mod (pv 2) pe_int)) (pe_op op_mul pe_int (pe_ix (kix (K := K) (r := rIxL) ix_list rfl) (pv 0) pe_int (fun _ _ => rfl)))) pe_int) (pg_sub (pv 0) pe_int set_list))))))) pss_nil)
    (pss_cons (ps_if (pt_cmpR op_gt (pe_ix (kix (K := K) (r := rIxL) ix_list rfl) (pv 0) pe_int (fun _ _ => rfl)) pe_int (nomark _)) (pss_cons (ps_set (i := 3) sc_lw_take.nd rfl (Or.inl rfl) (pe_op op_mod (pe_ix (kix (K := K) (r := rIxL) ix_list rfl) (pv 0) pe_int (fun _ _ => rfl)) (pv 1)))
        (pss_cons (ps_asg (pe_op op_fdivW (pe_ix (kix (K := K) (r := rIxL) ix_list rfl) (pv 0) pe_int (fun _ _ => rfl)) (pv 1)) (pg_sub (pv 0) pe_int set_list))
        (pss_one (ps_ret (pv 3))))) pss_nil)
    (pss_cons (ps_set (i := 4) sc_lw_take.nd rfl (Or.inl rfl) (pe_op op_mod (pe_op op_mul (pe_op op_add (pe_ix (kix (K := K) (r := rIxL) ix_list rfl) (pv 0) pe_int (fun _ _ => rfl)) pe_int) pe_int) pe_int))
    (pss_cons (ps_set (i := 5) sc_lw_take.nd rfl (Or.inl rfl) (pe_op op_mod (pe_op op_mul (pe_op op_mod (pe_op op_mul (pv 4) (pv 4)) pe_int) pe_int) pe_int))
    (pss_cons (ps_if (pt_cmpR op_gt (pv 1) pe_int (nomark _)) (pss_one (ps_ret (pe_op op_mod (pe_op op_add (pe_op op_mul (pv 5) pe_int) (pv 4)) (pv 1)))) pss_nil)
    (pss_one (ps_ret (pe_op op_mod (pe_op op_fdivW (pv 5) pe_int) (pv 1))))))))), ?_⟩
    have hb : H b = some (.lst [.int x, .int y, .int z, .ref c]) := hb
    have hc : H c = some (.lst (ns.map V.int)) := hc
    have k : ∀ v H', 0 ≤ v → v < many → Bag H' (b, c) → (∀ a, a ≠ b → H' a = H a) → Q (.int v) H' := k
    have ncb : c ≠ b := by
      rintro rfl
      rw [hb] at hc
      cases ns with
      | nil => cases hc
      | cons n1 ns => cases ns with
        | nil => cases hc
        | cons n2 ns => cases ns with
          | nil => cases hc
          | cons n3 ns => cases ns with
            | nil => cases hc
            | cons n4 ns => cases hc
    -- what stands behind the cell's taking
    refine ⟨fun σ H' => ∃ (o2 : Option V) (x y z : Int), σ = [some (.ref b), some (.int many), o2, none, none, none] ∧ 0 ≤ x ∧ (0 ≤ y ∧ y < 2147483647) ∧ 0 ≤ z ∧ H' b = some (.lst [.int x, .int y, .int z, .ref c]) ∧ (∀ a, a ≠ b → H' a = H a), ?_, ?_⟩
    · refine ⟨_, rfl, b, _, 0, _, rfl, rfl, SqL.of hb, rfl, rfl, _, rfl, ite2 (fun e => ?_) (fun e => ?_)⟩
      · -- cell = 0; if bag[2] < len(bag[3]): cell = bag[3][bag[2]]
        have ex : x = 0 := V.int.inj (of_decide_eq_true e)
        subst ex
        -- behind the cell's choice
        refine ⟨fun σ H' => H' = H ∧ ∃ cell : Int, 0 ≤ cell ∧ σ = [some (.ref b), some (.int many), some (.int cell), none, none, none], ?_, ?_⟩
        · refine ⟨_, rfl, b, _, 2, _, rfl, rfl, SqL.of hb, rfl, _, rfl, b, _, 3, _, rfl, rfl, SqL.of hb, rfl, c, _, rfl, .inl (SqL.of hc), _, _, rfl, rfl, _, rfl, ite2 (fun e => ?_) (fun e => ?_)⟩
          · have e0 : z < ns.length := by simpa using of_decide_eq_true e
            obtain ⟨n, rfl⟩ := Int.eq_ofNat_of_zero_le hz
            have hl : n < ns.length := by omega
            refine ⟨_, rfl, b, _, 3, _, rfl, rfl, SqL.of hb, rfl, _, rfl, b, _, 2, _, rfl, rfl, SqL.of hb, rfl, c, _, _, .int ns[n], rfl, rfl, SqL.of hc, atI_nat (by rw [List.getElem?_map, List.getElem?_eq_getElem hl]; rfl), rfl, ns[n], hn _ (List.getElem_mem hl), rfl⟩
          · exact ⟨rfl, 0, Int.le_refl _, rfl⟩
        · rintro σ H' ⟨rfl, cell, hcell, rfl⟩
          refine ⟨_, rfl, b, _, 2, _, rfl, rfl, SqL.of hb, rfl, _, _, rfl, rfl, b, _, 2, 2, rfl, rfl, hb, rfl, ?_⟩
          refine ⟨fun σ H2 => ∃ x : Int, 0 ≤ x ∧ σ = [some (.ref b), some (.int many), some (.int cell), none, none, none] ∧ H2 b = some (.lst [.int x, .int y, .int (z + 1), .ref c]) ∧ (∀ a, a ≠ b → H2 a = H' a), ?_, ?_⟩
          · refine ⟨_, rfl, _, _, rfl, rfl, _, rfl, ite2 (fun e => ?_) (fun e => ?_)⟩
            · refine ⟨_, rfl, _, rfl, b, _, 0, 0, rfl, rfl, upd_same, rfl, cell, hcell, rfl, upd_same, fun a ha => (upd_ne ha).trans (upd_ne ha)⟩
            · exact ⟨0, Int.le_refl _, rfl, upd_same, fun a ha => upd_ne ha⟩
          · rintro σ H2 ⟨x, hx, rfl, hb2, hs2⟩
            refine ⟨_, rfl, b, _, 1, _, rfl, rfl, SqL.of hb2, rfl, _, _, rfl, rfl, .inl (by omega), _, rfl, _, _, rfl, rfl, (by walk_at "pos"), _, _, rfl, rfl, ?_⟩
            refine ⟨_, rfl, b, _, 2, _, rfl, rfl, SqL.of hb2, rfl, _, _, rfl, rfl, .inl (by decide), _, _, rfl, rfl, _, _, rfl, rfl, (by walk_at "pos"), _, rfl, b, _, 1, 1, rfl, rfl, hb2, rfl, ?_⟩
            exact ⟨_, x, _, z + 1, rfl, hx, ⟨Int.emod_nonneg _ (by decide), Int.emod_lt_of_pos _ (by decide)⟩, by omega, upd_same, fun a ha => (upd_ne ha).trans (hs2 a ha)⟩
      · exact ⟨none, x, y, z, rfl, hx, ⟨hy, hy2⟩, hz, hb, fun _ _ => rfl⟩
    · rintro σ H' ⟨o2, x, y, z, rfl, hx, ⟨hy, hy2⟩, hz, hb, hs⟩
      have hc' : H' c = some (.lst (ns.map V.int)) := (hs c ncb).trans hc
      refine ⟨_, rfl, b, _, 0, _, rfl, rfl, SqL.of hb, rfl, _, _, rfl, rfl, _, rfl, ite2 (fun e => ?_) (fun e => ?_)⟩
      · have e0 : 0 < x := of_decide_eq_true e
        refine ⟨_, rfl, b, _, 0, _, rfl, rfl, SqL.of hb, rfl, _, rfl, _, _, rfl, rfl, hm, ?_⟩
        refine ⟨_, rfl, b, _, 0, _, rfl, rfl, SqL.of hb, rfl, _, rfl, _, _, rfl, rfl, divW hm hm2, ?_⟩
        refine ⟨_, rfl, b, _, 0, 0, rfl, rfl, hb, rfl, ?_⟩
        refine ⟨_, rfl, ?_⟩
        refine k _ _ (Int.emod_nonneg _ (by omega)) (Int.emod_lt_of_pos _ hm) ⟨x / many, y, z, ns, upd_same, (upd_ne ncb).trans hc', Int.ediv_nonneg hx (by omega), ⟨hy, hy2⟩, hz, hn⟩ (fun a ha => (upd_ne ha).trans (hs a ha))
      · -- the stirred number
        refine ⟨_, rfl, b, _, 1, _, rfl, rfl, SqL.of hb, rfl, _, _, rfl, rfl, _, _, rfl, rfl, .inl (by omega), _, _, rfl, rfl, (by walk_at "pos"), ?_⟩
        have f1 : 0 ≤ (y + 1) * 39373 % 1000000007 := Int.emod_nonneg _ (by decide)
        have f2 : (y + 1) * 39373 % 1000000007 < 1000000007 := Int.emod_lt_of_pos _ (by decide)
        generalize (y + 1) * 39373 % 1000000007 = p at *
        have g1 : 0 ≤ p * p % 998244353 := Int.emod_nonneg _ (by decide)
        have g2 : p * p % 998244353 < 998244353 := Int.emod_lt_of_pos _ (by decide)
        refine ⟨_, rfl, _, rfl, _, _, rfl, rfl, .inl (by omega), _, _, rfl, rfl, (by walk_at "pos"), _, _, rfl, rfl, .inl (by omega), _, _, rfl, rfl, (by walk_at "pos"), ?_⟩
        have s1 : 0 ≤ p * p % 998244353 * 30011 % 998244353 := Int.emod_nonneg _ (by decide)
        have s2 : p * p % 998244353 * 30011 % 998244353 < 998244353 := Int.emod_lt_of_pos _ (by decide)
        generalize p * p % 998244353 * 30011 % 998244353 = q at *
        have back : ∀ v : Int, 0 ≤ v → v < many → Q (.int v) H' := fun v h1 h2 => k v H' h1 h2 ⟨x, y, z, ns, hb, hc', hx, ⟨hy, hy2⟩, hz, hn⟩ hs
        refine ⟨_, rfl, _, _, rfl, rfl, _, rfl, ite2 (fun e => ?_) (fun e => ?_)⟩
        · refine ⟨_, rfl, _, _, rfl, rfl, .inl (by omega), _, rfl, _, _, rfl, rfl, _, rfl, _, _, rfl, rfl, hm, ?_⟩
          exact back _ (Int.emod_nonneg _ (by omega)) (Int.emod_lt_of_pos _ hm)
        · refine ⟨_, rfl, _, _, rfl, rfl, divW (by decide) (by decide), _, rfl, _, _, rfl, rfl, hm, ?_⟩
          exact back _ (Int.emod_nonneg _ (by omega)) (Int.emod_lt_of_pos _ hm)
end
end K28
end
section
set_option Elab.async false
set_option linter.all false
set_option maxRecDepth 100000
set_option maxHeartbeats 4000000
namespace K28
local macro_rules | `(tactic| walk_at "pos") => `(tactic| (show (0 : Int) < _; first | decide | omega))
open PySem PySem.Spec PyProof.Rows L2 Lf 
open Evl
local macro_rules | `(tactic| walk_at "lk") => `(tactic| (simp (disch := decide +kernel) only [lk_hit, lk_miss, lk_nil]))
local macro_rules | `(tactic| walk_at "pf") => `(tactic| (simp (disch := decide +kernel) only [pf_hit, pf_miss, pf_nil]))
section
variable {P : Program} {w : World} {K : PySem.W.Frag} {mg : Str → Option Value} {base : Heap} {CWeb CTerms cT pT : Addr} (T : Top K mg base CWeb CTerms cT pT)
include T
theorem c_lw_bag : Cal P w K mg base CX0 1 "_law_bag" (spBag K) := by
  refine T.d_lw_bag.cal sc_lw_bag (fun vs H Q E h => ?_) (fun f cdv A outer s H vs Q E g hr h => ?_)
  · obtain ⟨a, ns, rfl, _⟩ := h
    rfl
  · obtain ⟨a, ns, rfl, hx, hl, k⟩ := h
    refine ⟨_, (pss_one (ps_ret (pe_lst (pa_cons pe_int (pa_cons pe_int (pa_cons pe_int (pa_cons (pe_lc (own := [("_law_cell", 1)]) (g := (gName 1)) (tt := tYes) (by rfl) sc_lw_bag.nd (k_list (K := K) rfl (pe_slice (ksl (K := K) (r := rSlL) sl_list rfl) (pv 0) po_none (po_some pe_int))) (blkOk_by (own := [("_law_cell", 1)]) (N := ns_lw_bag) (sc := defScope s_lw_bag) (by decide +kernel)) (fun _ _ _ _ _ => (pg_name (i := 1) sc_lw_bag.nd rfl (Or.inl rfl))) (fun _ _ _ _ _ => pts_nil) (fun _ _ _ _ _ => (pe_callB call_abs (by rfl) T.n_abs (by decide +kernel) (pa_cons (pv 1) pa_nil)))) pa_nil))))))), ?_⟩
    have cut : ∃ ms : List Int, cutV (ns.map V.int) none (some 63) = ms.map V.int ∧ ms.length ≤ 63 := by
      refine ⟨(ns.drop (HT.sIx (ns.map V.int).length 0 none)).take (HT.sIx (ns.map V.int).length (ns.map V.int).length (some 63) - HT.sIx (ns.map V.int).length 0 none), ?_, ?_⟩
      · unfold cutV
        rw [List.map_take, List.map_drop]
      · rw [List.length_take, List.length_drop]
        omega
    obtain ⟨ms, e1, hms⟩ := cut
    have sl : EvL (tSl (rSlL K) (tVar 0) tNoPart (tPart (tC (.int 63)))) [some (V.ref a), none] H (ms.map V.int) := by
      rw [← e1]
      exact el_sl (ev_var rfl) eo_none (eo_some ev_c) hx
    have lc := el_lcNL (K := K) (t := tYes) (te := tCB (fun xs H Q => ∃ i, xs = [V.int i] ∧ Q (.int (if i < 0 then -i else i)) H) (tCons (tVar 1) tNil)) (j := 1) (vs := [1]) (fun _ => true) (fun i => V.int (if ms.getD i 0 < 0 then -ms.getD i 0 else ms.getD i 0)) sl (by rw [List.length_map]; omega) (fun _ => rfl) (fun _ _ _ _ _ => yes_ok) (fun i x H1 e1 hi _ => by
      have hil : i < ms.length := by
        have := (List.getElem?_eq_some_iff.mp hi).1
        rw [List.length_map] at this
        exact this
      rw [getD_int hil] at hi
      cases hi
      exact ev_cb (ea_cons (ev_var rfl) ea_nil) (fun H2 e2 Q q => ⟨_, rfl, q H2 (Ex.refl _)⟩))
    rw [given_all] at lc
    refine s_retLst4 lc fun c H1 c0 e2 hc p hp => ?_
    refine k (p, c) _ (e2.trans (Ex.new hp)) (fresh_back e2 hp) ⟨0, 1234567891, 0, (List.range ms.length).map fun i => if ms.getD i 0 < 0 then -ms.getD i 0 else ms.getD i 0, upd_same, ?_, by decide, by decide, by decide, ?_⟩
    · rw [upd_ne (ne_of_none hc hp), hc, List.length_map, List.map_map]
      rfl
    · intro n hn
      obtain ⟨i, _, rfl⟩ := List.mem_map.mp hn
      split <;> omega
end
end K28
end
section
set_option Elab.async false
set_option linter.all false
set_option maxRecDepth 100000
set_option maxHeartbeats 4000000
namespace K28
local macro_rules | `(tactic| walk_at "pos") => `(tactic| (show (0 : Int) < _; first | decide | omega))
open PySem PySem.Spec PyProof.Rows L2 Lf 
open Evl
local macro_rules | `(tactic| walk_at "lk") => `(tactic| (simp (disch := decide +kernel) only [lk_hit, lk_miss, lk_nil]))
local macro_rules | `(tactic| walk_at "pf") => `(tactic| (simp (disch := decide +kernel) only [pf_hit, pf_miss, pf_nil]))
section
variable {P : Program} {w : World} {K : PySem.W.Frag} {mg : Str → Option Value} {base : Heap} {CWeb CTerms cT pT : Addr} (T : Top K mg base CWeb CTerms cT pT)
include T
theorem c_number_of : Cal P w K mg base CX0 1 "number_of" (spNumber K) := by
  refine T.d_number_of.cal sc_number_of (fun vs H Q E h => ?_) (fun f cdv A outer s H vs Q E g hr h => ?_)
  · obtain ⟨v, o, rfl, _⟩ := h
    rfl
  · obtain ⟨v, o, rfl, ⟨t, b1, b2, ty, k1, k2, hc⟩, k⟩ := h
    refine ⟨_, (pss_cons (ps_if (PW.pt (pw_or (pt_not (pt_val (pe_callB (kcr (K := K) (r := rIsi) call_isi rfl) (by rfl) T.n_isinstance (by decide +kernel) (pa_cons (pv 0) (pa_cons (pe_bltn (v := .ty "int") (by rfl) T.n_int (by decide +kernel) rfl) pa_nil))))) (pw_or1 (pt_val (pe_callB (kcr (K := K) (r := rIsi) call_isi rfl) (by rfl) T.n_isinstance (by decide +kernel) (pa_cons (pv 0) (pa_cons (pe_bltn (v := .ty "bool") (by rfl) T.n_bool (by decide +kernel) rfl) pa_nil))))))) (pss_one (ps_ret pe_non)) pss_nil)
    (pss_cons (ps_set (i := 1) sc_number_of.nd rfl (Or.inl rfl) (pe_callTy cr_range1 (by rfl) T.n_range (by decide +kernel) (pa_cons (pv 0) pa_nil)))
    (pss_cons (ps_if (pt_cmpR op_in_rng pe_int (pv 1) rfl) (pss_one (ps_ret (pe_op op_add (pe_ix ix_rng (pv 1) (pe_un un_neg pe_int) (fun _ _ => rfl)) pe_int))) pss_nil)
    (pss_cons (ps_set (i := 2) sc_number_of.nd rfl (Or.inl rfl) (pe_callTy cr_range2 (by rfl) T.n_range (by decide +kernel) (pa_cons (pv 0) (pa_cons pe_int pa_nil))))
    (pss_one (ps_ret (pe_ix ix_rng (pv 2) pe_int (fun _ _ => rfl)))))))), ?_⟩
    refine ⟨_, rfl, v, .ty "int", t, .type "int", b1, rfl, .ty _, ty, k1, b1, rfl, ?_⟩
    rcases hc with ⟨rfl, rfl, i, rfl, rfl⟩ | ⟨rfl, rfl⟩ | ⟨rfl, rfl, rfl⟩
    · refine iteF ⟨_, rfl, .int i, .ty "bool", t, .type "bool", false, rfl, .ty _, ty, k2, false, rfl, iteF ?_⟩
      refine ⟨_, rfl, i, rfl, fun p hp => ?_⟩
      refine ⟨_, rfl, 0, p, 0, i, rfl, rfl, upd_same, _, rfl, ite2 (fun e => ?_) (fun e => ?_)⟩
      · have e0 := of_decide_eq_true e
        refine ⟨_, rfl, 1, rfl, p, 0, i, -1, -1 + (i - 0), rfl, rfl, upd_same, rfl, ⟨by omega, by omega⟩, _, _, rfl, rfl, ?_⟩
        have e1 : 0 + (-1 + (i - 0)) + 1 = i := by omega
        show Q (V.int (0 + (-1 + (i - 0)) + 1)) _
        rw [e1]
        exact k _ (Ex.new hp)
      · have e0 : ¬ (0 < i) := fun z => e (decide_eq_true ⟨Int.le_refl _, z⟩)
        refine ⟨_, rfl, i, 1, rfl, fun q hq => ?_⟩
        refine ⟨_, rfl, q, i, 1, 0, 0, rfl, rfl, upd_same, rfl, ⟨by omega, by omega⟩, ?_⟩
        rw [Int.add_zero]
        exact k _ ((Ex.new hp).trans (Ex.new hq))
    · exact iteT (iteT (k _ (Ex.refl _)))
    · exact iteF ⟨_, rfl, v, .ty "bool", t, .type "bool", true, rfl, .ty _, ty, k2, true, rfl, iteT (k _ (Ex.refl _))⟩
end
end K28
end
section
set_option Elab.async false
set_option linter.all false
set_option maxRecDepth 100000
set_option maxHeartbeats 4000000
namespace K28
local macro_rules | `(tactic| walk_at "pos") => `(tactic| (show (0 : Int) < _; first | decide | omega))
open PySem PySem.Spec PyProof.Rows L2 Lf 
open Evl
local macro_rules | `(tactic| walk_at "lk") => `(tactic| (simp (disch := decide +kernel) only [lk_hit, lk_miss, lk_nil]))
local macro_rules | `(tactic| walk_at "pf") => `(tactic| (simp (disch := decide +kernel) only [pf_hit, pf_miss, pf_nil]))
section
variable {P : Program} {w : World} {K : PySem.W.Frag} {mg : Str → Option Value} {base : Heap} {CWeb CTerms cT pT : Addr} (T : Top K mg base CWeb CTerms cT pT)
include T
theorem c_is_within : Cal P w K mg base CX0 2 "is_within" (spWithin K) := by
  refine T.d_is_within.cal sc_is_within (fun vs H Q E h => ?_) (fun f cdv A outer s H vs Q E g hr h => ?_)
  · obtain ⟨v, o, lo, hi, rfl, _⟩ := h
    rfl
  · obtain ⟨v, o, lo, hi, rfl, hw, k⟩ := h
    refine ⟨_, (pss_cons (ps_set (i := 3) sc_is_within.nd rfl (Or.inl rfl) (ec (c_number_of T) g hr (by decide) pass0 (by rfl) (pa_cons (pv 0) pa_nil)))
    (pss_one (ps_ret (pe_and (pe_cmpR op_notN (pv 3) pe_non (nomark _)) (pe_one (pe_chain op_le op_le (pv 1) (pv 3) (pv 2))))))), ?_⟩
    refine ⟨_, rfl, v, o, rfl, hw, fun H1 e1 => ?_⟩
    refine ⟨_, rfl, rfl, _, rfl, ?_⟩
    cases o with
    | none => exact iteF (k _ e1)
    | some i =>
      refine iteT ⟨_, rfl, _, rfl, _, _, rfl, rfl, _, rfl, ?_⟩
      by_cases h1 : lo ≤ i
      · refine (decide_eq_true h1).symm ▸ iteT ⟨_, rfl, _, _, rfl, rfl, ?_⟩
        have e2 : inB (some i) lo hi = decide (i ≤ hi) := by simp [inB, h1]
        rw [e2] at k
        exact k _ e1
      · refine (decide_eq_false h1).symm ▸ iteF ?_
        have e2 : inB (some i) lo hi = false := by simp [inB, h1]
        rw [e2] at k
        exact k _ e1
end
end K28
end
section
set_option Elab.async false
set_option linter.all false
set_option maxRecDepth 100000
set_option maxHeartbeats 4000000
namespace K28
local macro_rules | `(tactic| walk_at "pos") => `(tactic| (show (0 : Int) < _; first | decide | omega))
open PySem PySem.Spec PyProof.Rows L2 Lf 
open Evl
local macro_rules | `(tactic| walk_at "lk") => `(tactic| (simp (disch := decide +kernel) only [lk_hit, lk_miss, lk_nil]))
local macro_rules | `(tactic| walk_at "pf") => `(tactic| (simp (disch := decide +kernel) only [pf_hit, pf_miss, pf_nil]))
open Wm
def spTuple (K : PySem.W.Frag) : Sp := fun vs H Q _ => ∃ a xs, vs = [.ref a] ∧ SqT K H a xs ∧ RetV (.ref a) H Q
def spList (K : PySem.W.Frag) : Sp := fun vs H Q _ => ∃ a xs, vs = [.ref a] ∧ SqL K H a xs ∧ RetL xs H Q
def spRises (K : PySem.W.Frag) : Sp := fun vs H Q _ => ∃ v ps, vs = [v] ∧ Dp K H v (dPs ps) ∧ ps.length ≤ 1000 ∧ RetV (.bl (risesB ps)) H Q
def spLeast (K : PySem.W.Frag) : Sp := fun vs H Q _ => ∃ a b, vs = [.ref a] ∧ SqL K H a (vN b) ∧ RetV (.int (least b : Nat)) H Q
def spPair (K : PySem.W.Frag) : Sp := fun vs H Q _ => ∃ (t : Addr) (m a b : Nat), vs = [.int m, .ref t] ∧ SqT K H t [.int a, .int b] ∧ a < b ∧ b < m ∧ ∀ p H2, H p = none → Ex H H2 → H2 p = some (.tup [.int a, .int b]) → Q (.ref p) H2
def spPairs (K : PySem.W.Frag) : Sp := fun vs H Q _ => ∃ (v : V) (m : Nat) (ps : PS), vs = [.int m, v] ∧ Dp K H v (dPs ps) ∧ Good m ps ∧ ∀ (a : Addr) (ws : List V) (H2 : Hp), Ex H H2 → H a = none → H2 a = some (.lst ws) → PairsIn H2 ws ps → Q (.ref a) H2
def spNear (K : PySem.W.Frag) : Sp := fun vs H Q _ => ∃ (v : V) (m : Nat) (ps : PS), vs = [.int m, v] ∧ Dp K H v (dPs ps) ∧ Good m ps ∧ ∀ (a : Addr) (ws : List V) (H2 : Hp), Ex H H2 → H a = none → H2 a = some (.lst ws) → RowsIn H2 ws (nearOf m ps) → (∀ (i : Nat) (t : Addr), ws[i]? = some (.ref t) → H t = none) → Q (.ref a) H2
def spWebInit (K : PySem.W.Frag) (C : Addr) : Sp := fun vs H Q _ => ∃ (H0 : Hp) (x dx : Addr) (m : Nat) (v : V) (ps : PS), vs = [.ref x, .int m, v] ∧ Dp K H0 v (dPs ps) ∧ Good m ps ∧ Ex H0 H ∧ H0 x = none ∧ H x = some (.ins C dx []) ∧ ∀ H', Ex H0 H' → WebNew C H0 H' x m ps → Q .non H'
def spMany (K : PySem.W.Frag) (C : Addr) : Sp := fun vs H Q _ => ∃ p m ps, vs = [.ref p] ∧ WebAt K C H p m ps ∧ RetV (.int (m : Int)) H Q
def spKnown (K : PySem.W.Frag) (C : Addr) : Sp := fun vs H Q _ => ∃ (p : Addr) (m : Nat) (ps : PS) (i : Nat) (at_ : Int), vs = [.ref p, .int i, .int at_] ∧ WebAt K C H p m ps ∧ i < m ∧ RetV (.int (i : Int)) H Q
def spTouch (K : PySem.W.Frag) (C : Addr) : Sp := fun vs H Q _ => ∃ (p t : Addr) (m : Nat) (ps : PS) (i : Nat) (row : List Nat), vs = [.ref p, .int i, .ref t] ∧ WebAt K C H p m ps ∧ i < m ∧ SqL K H t (vN row) ∧ RetV (.bl ((rowOf ps i).any fun x => decide (x ∈ row))) H Q
def spClash (K : PySem.W.Frag) (C : Addr) : Sp := fun vs H Q _ => ∃ (p : Addr) (m : Nat) (ps : PS) (i j : Nat), vs = [.ref p, .int i, .int j] ∧ WebAt K C H p m ps ∧ i < m ∧ j < m ∧ RetV (.bl (clash ps i j)) H Q
def spSlots (K : PySem.W.Frag) (C : Addr) : Sp := fun vs H Q _ => ∃ (p : Addr) (m : Nat) (ps : PS), vs = [.ref p] ∧ WebAt K C H p m ps ∧ RetL (vN (slotsUpto ps m)) H Q
theorem bl_map (n : Nat) (q : Nat → Bool) : ((List.range n).map fun i => V.bl (q i)) = ((List.range n).map q).map V.bl := by rw [List.map_map]; rfl
theorem no_m {m : Nat} {a1 a2 : Addr} {x : Str} (h1 : (decide (x = "_many") || decide (x = "_pairs") || decide (x = "_near")) = false) : (webF m a1 a2).lookup x = none := by
  simp only [Bool.or_eq_false_iff, decide_eq_false_iff_not] at h1
  exact webF_no m a1 a2 h1.1.1 h1.1.2 h1.2
theorem sv_clash {K : PySem.W.Frag} {C : Addr} {H : Hp} {p : Addr} {m : Nat} {ps : PS} {i j : Nat} (hW : WebAt K C H p m ps) (hi : i < m) (hj : j < m) : SV (spClash K C) [.ref p, .int i, .int j] H (.bl (clash ps i j)) := fun H1 e Q q E => ⟨p, m, ps, i, j, rfl, hW.ex e, hi, hj, q⟩
theorem sv_numberI {K : PySem.W.Frag} {i : Int} {H : Hp} : SV (spNumber K) [.int i] H (.int i) := fun H1 e Q q E => ⟨.int i, some i, rfl, .int K H1 i, q⟩
theorem sv_withinD {K : PySem.W.Frag} {i lo hi : Int} {H : Hp} : SV (spWithin K) [.int i, .int lo, .int hi] H (.bl (decide (lo ≤ i) && decide (i ≤ hi))) := fun H1 e Q q E => ⟨.int i, some i, lo, hi, rfl, .int K H1 i, q⟩
section
variable {P : Program} {w : World} {K : PySem.W.Frag} {mg : Str → Option Value} {base : Heap} {CWeb CTerms cT pT : Addr} (T : Top K mg base CWeb CTerms cT pT)
include T
theorem c_tuple_of : Cal P w K mg base CX0 1 "tuple_of" (spTuple K) := by
  refine T.d_tuple_of.cal sc_tuple_of (fun vs H Q E h => ?_) (fun f cdv A outer s H vs Q E g hr h => ?_)
  · obtain ⟨a, xs, rfl, _⟩ := h
    rfl
  · obtain ⟨a, xs, rfl, ht, k⟩ := h
    refine ⟨_, (pss_one (ps_ret (pe_ifExp (pt_val (pe_callB (kcr (K := K) (r := rIsi) call_isi rfl) (by rfl) T.n_isinstance (by decide +kernel) (pa_cons (pv 0) (pa_cons (pe_bltn (v := .ty "tuple") (by rfl) T.n_tuple (by decide +kernel) rfl) pa_nil)))) (pe_callTy (k_tpl (K := K) rfl) (by rfl) T.n_tuple (by decide +kernel) (pa_cons (pv 0) pa_nil)) pe_non))), ?_⟩
    exact ⟨_, rfl, .ref a, .ty "tuple", _, .type "tuple", true, rfl, .ty _, ty_of_t ht, kit_ty (by decide +kernel), true, rfl, iteT ⟨_, rfl, a, xs, rfl, .inr ⟨ht, k _ (Ex.refl _)⟩⟩⟩
theorem c_list_of : Cal P w K mg base CX0 1 "list_of" (spList K) := by
  refine T.d_list_of.cal sc_list_of (fun vs H Q E h => ?_) (fun f cdv A outer s H vs Q E g hr h => ?_)
  · obtain ⟨a, xs, rfl, _⟩ := h
    rfl
  · obtain ⟨a, xs, rfl, ht, k⟩ := h
    refine ⟨_, (pss_one (ps_ret (pe_ifExp (pt_val (pe_callB (kcr (K := K) (r := rIsi) call_isi rfl) (by rfl) T.n_isinstance (by decide +kernel) (pa_cons (pv 0) (pa_cons (pe_bltn (v := .ty "list") (by rfl) T.n_list (by decide +kernel) rfl) pa_nil)))) (pe_callTy (k_lst (K := K) rfl) (by rfl) T.n_list (by decide +kernel) (pa_cons (pv 0) pa_nil)) pe_non))), ?_⟩
    exact ⟨_, rfl, .ref a, .ty "list", _, .type "list", true, rfl, .ty _, ty_of_l ht, kit_ty (by decide +kernel), true, rfl, iteT ⟨_, rfl, a, xs, rfl, .inl ht, fun l hl => k l _ hl (Ex.new hl) upd_same⟩⟩
theorem c_rises : Cal P w K mg base CX0 1 "rises" (spRises K) := by
  refine T.d_rises.cal sc_rises (fun vs H Q E h => ?_) (fun f cdv A outer s H vs Q E g hr h => ?_)
  · obtain ⟨v, ps, rfl, _⟩ := h
    rfl
  · obtain ⟨v, ps, rfl, hd, hl, k⟩ := h
    obtain ⟨a, xs, rfl, hx, hlen, hi⟩ := dPs_list hd
    refine ⟨_, (pss_one (ps_ret (pe_callB (kcr (K := K) (r := rAll) (cr_all rfl) rfl) (by rfl) T.n_all (by decide +kernel) (pa_cons (pe_lc (own := [("ahead", 1), ("behind", 2)]) (g := (gTup K 2 (gCons (gName 1) (gCons (gName 2) gNil)))) (tt := tYes) (by rfl) sc_rises.nd (k_zip (K := K) rfl (by rfl) T.n_zip (pa_cons (pv 0) (pa_cons (pe_slice (ksl (K := K) (r := rSlL) sl_list rfl) (pv 0) (po_some pe_int) po_none) pa_nil))) (blkOk_by (own := [("ahead", 1), ("behind", 2)]) (N := ns_rises) (sc := defScope s_rises) (by decide +kernel)) (fun _ _ _ _ _ => (k_gtup (K := K) rfl (by rfl) (pgs_cons (pg_name (i := 1) sc_rises.nd rfl (Or.inl rfl)) (pgs_cons (pg_name (i := 2) sc_rises.nd rfl (Or.inl rfl)) pgs_nil)))) (fun _ _ _ _ _ => pts_nil) (fun _ _ _ _ _ => (pe_cmpR (kop (K := K) (r := rLtT) (op_ltT hr.units0) rfl) (pv 1) (pv 2) (nomark _)))) pa_nil)))), ?_⟩
    refine s_ret (v := .bl (risesB ps)) (ev_all (bs := (List.range (ps.length - 1)).map fun i => lexP (ps.getD i (0, 0)) (ps.getD (i + 1) (0, 0))) ?_) (fun H1 e => k H1 e)
    rw [List.map_map]
    refine el_mapZ (a := a) (xs := xs) (ys := xs.drop 1) (V.bl ∘ fun i => lexP (ps.getD i (0, 0)) (ps.getD (i + 1) (0, 0))) (fun H1 e Q q => ?_) hx ?_ (by omega) (fun _ _ => rfl) (fun i x y H1 e h1 h2 => ?_)
    · refine ⟨_, rfl, _, rfl, 1, rfl, a, xs, rfl, ex_l e hx, fun p hp => q p _ (Ex.new hp) ?_⟩
      rw [cut1]
      exact sq_of upd_same
    · rw [List.length_drop]
      omega
    · obtain ⟨p, t, e1, rfl, ht⟩ := hi i x h1
      rw [List.getElem?_drop, Nat.add_comm 1 i] at h2
      obtain ⟨q, u, e2, rfl, hu⟩ := hi (i + 1) y h2
      refine ev_is (ev_op (ev_var rfl) (ev_var rfl) (z := .bl (lexP p q)) (rv_val fun H2 e3 Q k => ?_)) ?_
      · exact ⟨t, u, [(p.1 : Int), p.2], [(q.1 : Int), q.2], rfl, rfl, ex_t (e.trans e3) ht, ex_t (e.trans e3) hu, k⟩
      · show V.bl _ = V.bl (lexP (ps.getD i (0, 0)) (ps.getD (i + 1) (0, 0)))
        rw [List.getD_eq_getElem?_getD, List.getD_eq_getElem?_getD, e1, e2]
        rfl
theorem c_least_free : Cal P w K mg base CX0 1 "least_free" (spLeast K) := by
  refine T.d_least_free.cal sc_least_free (fun vs H Q E h => ?_) (fun f cdv A outer s H vs Q E g hr h => ?_)
  · obtain ⟨a, b, rfl, _⟩ := h
    rfl
  · obtain ⟨a, b, rfl, hb, k⟩ := h
    refine ⟨_, (pss_cons (ps_set (i := 1) sc_least_free.nd rfl (Or.inl rfl) pe_int)
    (pss_cons (ps_while PassesOwn.never (pt_cmpR (kop (K := K) (r := fun K => rIn K false) op_in_seq rfl) (pv 1) (pv 0) rfl) (pss_one (ps_aug (i := 1) sc_least_free.nd rfl (Or.inl rfl) pe_int ip_add)))
    (pss_one (ps_ret (pv 1))))), ?_⟩
    refine q_while (fun m σ' H' => Ex H H' ∧ ∃ n : Nat, σ' = [some (.ref a), some (.int (n : Int))] ∧ (∀ x, x < n → x ∈ b) ∧ m = b.length - n) b.length ⟨Ex.refl _, 0, rfl, by omega, by omega⟩ ?_
    rintro m σ' H' ⟨e, n, rfl, hn, rfl⟩
    have hle := len_ge n b hn
    refine ⟨decide (n ∈ b), et_test (ev_is (ev_op (ev_var rfl) (ev_var rfl) (rv_isL (ex_l e hb) rfl (vN_flat b))) (by rw [inV_nat])), fun hb1 H1 e1 => ?_, fun hb1 H1 e1 => ?_⟩
    · have hm := of_decide_eq_true hb1
      have hlt : n < b.length := by
        have := len_ge (n + 1) b fun x hx => by
          by_cases q : x = n
          · exact q ▸ hm
          · exact hn x (by omega)
        omega
      refine ⟨fun σ2 H2 => Ex H H2 ∧ σ2 = [some (.ref a), some (.int ((n + 1 : Nat) : Int))], fun σ2 H2 h2 => ⟨b.length - (n + 1), by omega, h2.1, n + 1, h2.2, fun x hx => ?_, rfl⟩, ?_⟩
      · by_cases q : x = n
        · exact q ▸ hm
        · exact hn x (by omega)
      · refine s_aug (a := (n : Int)) rfl ev_c (fun H2 e2 => ⟨(e.trans e1).trans e2, ?_⟩)
        show [some (V.ref a), some (V.int ((n : Int) + 1))] = _
        rfl
    · have hm := of_decide_eq_false hb1
      have el : least b = n := least_eq hm hn
      rw [el] at k
      exact ⟨_, rfl, k _ (e.trans e1)⟩
theorem c_pair_of :
    Cal P w K mg base CX0 3 "pair_of" (spPair K) := by
  refine T.d_pair_of.cal sc_pair_of (fun vs H Q E h => ?_) (fun f cdv A outer s H vs Q E g hr h => ?_)
  · obtain ⟨t, m, a, b, rfl, _⟩ := h
    rfl
  · obtain ⟨t, m, a, b, rfl, ht, hab, hbm, k⟩ := h
    refine ⟨_, (pss_cons (ps_set (i := 2) sc_pair_of.nd rfl (Or.inl rfl) (ec (c_tuple_of T) g hr (by decide) pass0 (by rfl) (pa_cons (pv 1) pa_nil)))
    (pss_cons (ps_if (PW.pt (pw_or (pt_cmpR op_isN (pv 2) pe_non (nomark _)) (pw_or1 (pt_cmpR op_ne (pe_callB (k_len (K := K) rfl) (by rfl) T.n_len PySem.boot_len (pa_cons (pv 2) pa_nil)) pe_int (nomark _))))) (pss_one (ps_ret pe_non)) pss_nil)
    (pss_cons (ps_if (pt_not (pt_val (pe_callB (kcr (K := K) (r := rAll) (cr_all rfl) rfl) (by rfl) T.n_all (by decide +kernel) (pa_cons (pe_lc (own := [("part", 5)]) (g := (gName 5)) (tt := tYes) (by rfl) sc_pair_of.nd (k_tup (K := K) rfl (pv 2)) (blkOk_by (own := [("part", 5)]) (N := ns_pair_of) (sc := defScope s_pair_of) (by decide +kernel)) (fun _ _ _ _ _ => (pg_name (i := 5) sc_pair_of.nd rfl (Or.inl rfl))) (fun _ _ _ _ _ => pts_nil) (fun _ _ _ _ _ => (ec (c_is_within T) g hr (by decide) pass0 (by rfl) (pa_cons (pv 5) (pa_cons pe_int (pa_cons (pe_op op_sub (pv 0) pe_int) pa_nil)))))) pa_nil)))) (pss_one (ps_ret pe_non)) pss_nil)
    (pss_cons (ps_asg (pe_lc (own := [("part", 5)]) (g := (gName 5)) (tt := tYes) (by rfl) sc_pair_of.nd (k_tup (K := K) rfl (pv 2)) (blkOk_by (own := [("part", 5)]) (N := ns_pair_of) (sc := defScope s_pair_of) (by decide +kernel)) (fun _ _ _ _ _ => (pg_name (i := 5) sc_pair_of.nd rfl (Or.inl rfl))) (fun _ _ _ _ _ => pts_nil) (fun _ _ _ _ _ => (ec (c_number_of T) g hr (by decide) pass0 (by rfl) (pa_cons (pv 5) pa_nil)))) (pg_lst (by rfl) (pgs_cons (pg_name (i := 3) sc_pair_of.nd rfl (Or.inl rfl)) (pgs_cons (pg_name (i := 4) sc_pair_of.nd rfl (Or.inl rfl)) pgs_nil))))
    (pss_one (ps_ret (pe_ifExp (pt_cmpR op_lt (pv 3) (pv 4) (nomark _)) (pe_tup (pa_cons (pv 3) (pa_cons (pv 4) pa_nil))) pe_non))))))), ?_⟩
    -- parts = tuple_of(thing)
    refine q_asg (ev_cl (ea_cons (ev_var rfl) ea_nil) (fun H1 e Q q E => ⟨t, _, rfl, ex_t e ht, q⟩)) fun H1 e1 => ?_
    -- if parts is None or len(parts) != 2
    refine q_when (b := false) (et_is (et_or (et_test (ev_op (ev_var rfl) ev_c (z := .bl false) (rv_val fun H e Q q => ⟨rfl, q⟩))) (fun _ => et_test (ev_op (ev_lenT (ev_var rfl) (ex_t e1 ht)) ev_c (rv_ne rfl)))) (by show (false || !decide (V.int 2 = V.int 2)) = false; rfl)) (fun h => nomatch h) fun _ H2 e2 => ?_
    -- if not all([is_within(part, 0, many - 1) for part in parts])
    have in1 : ∀ (i : Nat) (x : V), [V.int (a : Int), .int (b : Int)][i]? = some x → ∃ n : Nat, x = .int (n : Int) ∧ n < m ∧ (i = 0 → n = a) ∧ (i = 1 → n = b) := by
      intro i x hx
      match i, hx with
      | 0, hx => exact ⟨a, (Option.some.inj hx).symm, by omega, fun _ => rfl, fun z => by cases z⟩
      | 1, hx => exact ⟨b, (Option.some.inj hx).symm, by omega, (fun z => by cases z), fun _ => rfl⟩
      | _ + 2, hx => simp at hx
    have e12 := e1.trans e2
    refine q_when (b := !true) (et_not (et_B (ev_is (ev_all (bs := (List.range 2).map fun _ => true) ?_) rfl))) (fun h => nomatch h) fun _ H3 e3 => ?_
    · rw [← bl_map]
      refine el_mapT (fun _ => V.bl true) (ev_var rfl) (ex_t e12 ht) (by show 2 ≤ 40000; decide) (fun _ => rfl) fun i x H3 e3 hx => ?_
      obtain ⟨n, rfl, hn, _, _⟩ := in1 i x hx
      refine ev_is (ev_cl (ea_cons (ev_var rfl) (ea_cons ev_c (ea_cons (ev_op (ev_var rfl) ev_c rv_I0) ea_nil))) sv_withinD) ?_
      have h1 : (0 : Int) ≤ (n : Int) := by omega
      have h2 : (n : Int) ≤ (m : Int) - 1 := by omega
      simp [h1, h2]
    have e13 := e12.trans e3
    -- lesser, greater = [number_of(part) for part in parts]
    have lc := el_mapT (K := K) (te := tCl (spNumber K) E0 (tCons (tVar 5) tNil)) (σ := [some (V.int (m : Int)), some (.ref t), some (.ref t), none, none, none]) (H := H3) (tl := tVar 2) (j := 5) (vs := [5]) (fun i => if i = 0 then V.int (a : Int) else V.int (b : Int)) (ev_var rfl) (ex_t e13 ht) (by show 2 ≤ 40000; decide) (fun _ => rfl) (fun i x H4 e4 hx => by
      obtain ⟨n, rfl, hn, h0, h1⟩ := in1 i x hx
      refine ev_is (ev_cl (ea_cons (ev_var rfl) ea_nil) sv_numberI) ?_
      have hi2 := (List.getElem?_eq_some_iff.mp hx).1
      have hi : i < 2 := hi2
      by_cases q : i = 0
      · rw [if_pos q, h0 q]
      · rw [if_neg q, h1 (by omega)])
    refine q_asgG lc fun l H4 _ e4 hl => ⟨l, _, rfl, sq_of hl, rfl, _, _, rfl, _, _, rfl, rfl, ?_⟩
    -- return (lesser, greater) if lesser < greater else None
    refine ⟨_, rfl, _, rfl, _, _, rfl, rfl, _, rfl, ?_⟩
    have hlt : (a : Int) < (b : Int) := by omega
    refine (decide_eq_true hlt).symm ▸ iteT ⟨_, rfl, _, rfl, (by show 2 ≤ sizeLine; decide), fun p hp => ?_⟩
    exact k p _ (fresh_back (e13.trans e4) hp) ((e13.trans e4).trans (Ex.new hp)) upd_same
theorem c_pairs_of :
    Cal P w K mg base CX0 4 "pairs_of" (spPairs K) := by
  refine T.d_pairs_of.cal sc_pairs_of (fun vs H Q E h => ?_) (fun f cdv A outer s H vs Q E g hr h => ?_)
  · obtain ⟨v, m, ps, rfl, _⟩ := h
    rfl
  · obtain ⟨v, m, ps, rfl, hd, hg, k⟩ := h
    obtain ⟨a, xs, rfl, hx, hlen, hi⟩ := dPs_list hd
    have few := hg.few
    refine ⟨_, (pss_cons (ps_set (i := 2) sc_pairs_of.nd rfl (Or.inl rfl) (ec (c_list_of T) g hr (by decide) pass0 (by rfl) (pa_cons (pv 1) pa_nil)))
    (pss_cons (ps_if (pt_cmpR op_isN (pv 2) pe_non (nomark _)) (pss_one (ps_ret pe_non)) pss_nil)
    (pss_cons (ps_setLc (i := 3) (own := [("each", 4)]) (g := (gName 4)) (tt := tYes) (by rfl) sc_pairs_of.nd rfl rfl (sw_true rfl rfl rfl (by decide +kernel)) (k_list (K := K) rfl (pv 2)) (blkOk_by (own := [("each", 4)]) (N := ns_pairs_of) (sc := defScope s_pairs_of) (by decide +kernel)) (fun _ _ _ _ _ => (pg_name (i := 4) sc_pairs_of.nd rfl (Or.inl rfl))) (fun _ _ _ _ _ => pts_nil) (fun _ _ _ _ _ => (ec (c_pair_of T) g hr (by decide) pass0 (by rfl) (pa_cons (pv 0) (pa_cons (pv 4) pa_nil)))))
    (pss_one (ps_ret (pe_ifExp (PW.pt (pw_and (pt_cmpR (kop (K := K) (r := rNotInD) (op_notInD (u65 hr)) rfl) pe_non (pv 3) rfl) (pw_and1 (pt_val (ec (c_rises T) g hr (by decide) pass0 (by rfl) (pa_cons (pv 3) pa_nil)))))) (pv 3) pe_non)))))), ?_⟩
    -- things = list_of(thing)
    refine q_asgL (el_cl (ea_cons (ev_var rfl) ea_nil) (fun H1 e Q q E => ⟨a, xs, rfl, ex_l e hx, q⟩)) fun l H1 _ e1 hl => ?_
    -- if things is None
    refine q_when (b := false) (et_test (ev_op (ev_var rfl) ev_c (z := .bl false) (rv_val fun H e Q q => ⟨rfl, q⟩))) (fun h => nomatch h) fun _ H2 e2 => ?_
    have hl2 := e2 _ _ hl
    have e12 := e1.trans e2
    -- pairs = [pair_of(many, each) for each in things]
    refine ⟨_, rfl, l, rfl, ⟨_, sq_of hl2⟩, fun D hD => lc_list (xs := xs) (fun i H' => Ex H2 H' ∧ ∃ ws, H' D = some (.lst ws) ∧ PairsIn H' ws (ps.take i)) ⟨Ex.new hD, [], upd_same, PairsIn.nil _⟩ (fun i H' _ p => sq_of (p.1 _ _ hl2)) ?_ ?_⟩
    · rintro i x H' hxi ⟨e3, ws, hw, hp⟩
      obtain ⟨p, t, hpi, rfl, ht⟩ := hi i x hxi
      obtain ⟨h1, h2⟩ := hg.lt p (List.mem_of_getElem? hpi)
      have hil : i < ps.length := (List.getElem?_eq_some_iff.mp hpi).1
      refine ⟨rfl, _, rfl, _, rfl, t, m, p.1, p.2, rfl, ex_t (e12.trans e3) ht, h1, h2, fun q H4 hq e4 hq4 => ?_⟩
      have hw4 := e4 _ _ hw
      have hws : ws.length = i := by rw [hp.1, List.length_take]; omega
      refine ⟨ws, hw4, sz_lt (by omega), Ex.mut (e3.trans e4) hD, ws ++ [.ref q], upd_same, ?_⟩
      have et : ps.take (i + 1) = ps.take i ++ [p] := by rw [List.take_add_one, hpi]; rfl
      rw [et]
      exact ((hp.ex e4).snoc hq4).upd hw4
    · rintro H3 ⟨e3, ws, hw, hp⟩
      rw [hlen, List.take_length] at hp
      have hdp : Dp K H3 (.ref D) (dPs ps) := hp.dp (sq_of hw)
      have e13 := e12.trans e3
      -- return pairs if None not in pairs and rises(pairs) else None
      refine ⟨_, rfl, .none, _, .non, hdp, rfl, (sh_dPs ps).shaped (by decide), !false, ?_, iteT ⟨_, rfl, _, ps, rfl, hdp, few, fun H4 e4 => ⟨true, ?_, iteT ⟨_, rfl, k D ws H4 (e13.trans e4) (fresh_back e12 hD) (e4 _ _ hw) (hp.ex e4)⟩⟩⟩⟩
      · rw [non_dPs]
      · rw [hg.rise]
theorem c_near_lists : Cal P w K mg base CX0 1 "near_lists" (spNear K) := by
  refine T.d_near_lists.cal sc_near_lists (fun vs H Q E h => ?_) (fun f cdv A outer s H vs Q E g hr h => ?_)
  · obtain ⟨v, m, ps, rfl, _⟩ := h
    rfl
  · obtain ⟨v, m, ps, rfl, hd, hg, k⟩ := h
    obtain ⟨a, xs, rfl, hx, hlen, hi⟩ := dPs_list hd
    have few := hg.few
    have m10 := hg.m10
    refine ⟨_, (pss_cons (ps_setLc (i := 2) (own := [("_", 5)]) (g := (gName 5)) (tt := tYes) (by rfl) sc_near_lists.nd rfl rfl (sw_true rfl rfl rfl (by decide +kernel)) (pi_range1 (by rfl) T.n_range (pa_cons (pv 0) pa_nil)) (blkOk_by (own := [("_", 5)]) (N := ns_near_lists) (sc := defScope s_near_lists) (by decide +kernel)) (fun _ _ _ _ _ => (pg_name (i := 5) sc_near_lists.nd rfl (Or.inl rfl))) (fun _ _ _ _ _ => pts_nil) (fun _ _ _ _ _ => (pe_lst pa_nil)))
    (pss_cons (ps_for PassesOwn.never rfl (k_list (K := K) rfl (pv 1)) (k_gtup (K := K) rfl (by rfl) (pgs_cons (pg_name (i := 3) sc_near_lists.nd rfl (Or.inl rfl)) (pgs_cons (pg_name (i := 4) sc_near_lists.nd rfl (Or.inl rfl)) pgs_nil))) (pss_cons (ps_expr (k_bm (K := K) rfl PySem.F.plainAttrs_list PySem.F.slot_list_append PySem.F.type_list_append mt_append (pe_ix (kix (K := K) (r := rIxL) ix_list rfl) (pv 2) (pv 3) (fun _ _ => rfl)) (pa_cons (pv 4) pa_nil)))
        (pss_one (ps_expr (k_bm (K := K) rfl PySem.F.plainAttrs_list PySem.F.slot_list_append PySem.F.type_list_append mt_append (pe_ix (kix (K := K) (r := rIxL) ix_list rfl) (pv 2) (pv 4) (fun _ _ => rfl)) (pa_cons (pv 3) pa_nil))))))
    (pss_one (ps_ret (pv 2))))), ?_⟩
    -- near = [[] for _ in range(many)]
    refine ⟨_, rfl, (m : Int), rfl, by omega, by omega, fun N hN => lc_range (lo := 0) (n := (m : Int).toNat) (fun i H' => Ex H H' ∧ ∃ ws, H' N = some (.lst ws) ∧ RowsIn H' ws (List.replicate i []) ∧ ∀ (j : Nat) (t : Addr), ws[j]? = some (.ref t) → H t = none ∧ t ≠ N) ⟨Ex.new hN, [], upd_same, ⟨rfl, fun i row h => by simp at h, fun i j t h => by simp at h⟩, fun j t h => by simp at h⟩ ?_ ?_⟩
    · rintro i H' hi2 ⟨e1, ws, hw, hrow, hfr⟩
      have hws : ws.length = i := by rw [hrow.1, List.length_replicate]
      refine ⟨rfl, Nat.zero_le _, fun q hq => ?_⟩
      have nqN : N ≠ q := ne_of_none hw hq
      have hwq : (upd H' q (.lst [])) N = some (.lst ws) := by rw [upd_ne nqN]; exact hw
      refine ⟨ws, hwq, sz_lt (by omega), Ex.mut (e1.trans (Ex.new hq)) hN, ws ++ [.ref q], upd_same, ⟨?_, ?_, ?_⟩, ?_⟩
      · rw [List.length_append, List.length_replicate, hws]
        rfl
      · intro j row hj
        rw [List.getElem?_replicate] at hj
        by_cases hji : j < i + 1
        · rw [if_pos hji] at hj
          cases hj
          by_cases hj2 : j < i
          · obtain ⟨t, h1, h2⟩ := hrow.2.1 j [] (by rw [List.getElem?_replicate, if_pos hj2])
            refine ⟨t, by rw [List.getElem?_append_left (by omega)]; exact h1, ?_⟩
            rw [upd_ne (hfr j t h1).2, upd_ne (ne_of_none h2 hq)]
            exact h2
          · have ej : j = i := by omega
            subst ej
            refine ⟨q, by rw [List.getElem?_append_right (by omega), hws, Nat.sub_self]; rfl, ?_⟩
            rw [upd_ne nqN.symm, upd_same]
            rfl
        · rw [if_neg hji] at hj
          cases hj
      · have old : ∀ (j : Nat) (t : Addr), (ws ++ [V.ref q])[j]? = some (.ref t) → (j < i ∧ ws[j]? = some (.ref t)) ∨ (j = i ∧ t = q) := by
          intro j t hj
          by_cases hj2 : j < i
          · rw [List.getElem?_append_left (by omega)] at hj
            exact .inl ⟨hj2, hj⟩
          · rw [List.getElem?_append_right (by omega)] at hj
            have hl1 := (List.getElem?_eq_some_iff.mp hj).1
            have ej : j = i := by simp at hl1; omega
            subst ej
            rw [hws, Nat.sub_self] at hj
            cases hj
            exact .inr ⟨rfl, rfl⟩
        have ne : ∀ (j : Nat) (t : Addr), j < i → ws[j]? = some (.ref t) → t ≠ q := by
          intro j t hj h1
          obtain ⟨u, h2, h3⟩ := hrow.2.1 j [] (by rw [List.getElem?_replicate, if_pos hj])
          rw [h1] at h2
          cases h2
          exact ne_of_none h3 hq
        intro j1 j2 t h1 h2
        rcases old j1 t h1 with ⟨a1, b1⟩ | ⟨a1, b1⟩ <;> rcases old j2 t h2 with ⟨a2, b2⟩ | ⟨a2, b2⟩
        · exact hrow.2.2 j1 j2 t b1 b2
        · exact absurd b2 (ne j1 t a1 b1)
        · exact absurd b1 (ne j2 t a2 b2)
        · omega
      · intro j t hj
        by_cases hj2 : j < i
        · rw [List.getElem?_append_left (by omega)] at hj
          exact hfr j t hj
        · rw [List.getElem?_append_right (by omega)] at hj
          have hl1 := (List.getElem?_eq_some_iff.mp hj).1
          have ej : j = i := by simp at hl1; omega
          subst ej
          rw [hws, Nat.sub_self] at hj
          cases hj
          exact ⟨fresh_back e1 hq, nqN.symm⟩
    · rintro H1 ⟨e1, ws, hw, hrow, hfr⟩
      have em : (m : Int).toNat = m := Int.toNat_natCast m
      rw [em] at hrow
      -- for lesser, greater in pairs
      refine ⟨_, rfl, a, rfl, ⟨_, ex_l e1 hx⟩, for_list (xs := xs) (fun i σ H' => ∃ o3 o4, σ = [some (.int (m : Int)), some (.ref a), some (.ref N), o3, o4, none] ∧ Ex H H' ∧ H' N = some (.lst ws) ∧ RowsIn H' ws (rowsUpto m ps i)) ⟨none, none, rfl, e1, hw, by rw [rows_zero]; exact hrow⟩ (fun i σ H' _ ⟨_, _, _, e, _⟩ => ex_l e hx) ?_ ?_⟩
      · rintro i x σ H' hxi ⟨o3, o4, rfl, e2, hw2, hr2⟩
        obtain ⟨⟨pa, pb⟩, t, hpi, rfl, ht⟩ := hi i x hxi
        obtain ⟨h1, h2⟩ := hg.lt _ (List.mem_of_getElem? hpi)
        have h1 : pa < pb := h1
        have h2 : pb < m := h2
        have hra : (rowsUpto m ps i)[pa]? = some (rowOf (ps.take i) pa) := by
          unfold rowsUpto
          rw [List.getElem?_map, List.getElem?_range (by omega)]
          rfl
        have hrb : (rowsUpto m ps i)[pb]? = some (rowOf (ps.take i) pb) := by
          unfold rowsUpto
          rw [List.getElem?_map, List.getElem?_range h2]
          rfl
        obtain ⟨ta, ga, la⟩ := hr2.2.1 pa _ hra
        obtain ⟨tb, gb, lb⟩ := hr2.2.1 pb _ hrb
        have small : ∀ j, (rowOf (ps.take i) j).length < sizeLine := fun j => by
          refine sz_lt ?_
          have q1 : (rowOf (ps.take i) j).length ≤ (ps.take i).length := List.length_filterMap_le ..
          rw [List.length_take] at q1
          omega
        refine ⟨t, _, rfl, ex_t e2 ht, rfl, _, _, rfl, _, _, rfl, rfl, ?_⟩
        -- near[lesser].append(greater)
        refine ⟨_, rfl, _, rfl, N, ws, _, .ref ta, rfl, rfl, sq_of hw2, atI_nat ga, .inl ⟨rfl, _, sq_of la⟩, _, rfl, ta, _, _, rfl, rfl, la, (by rw [vN_len]; exact small pa), ?_⟩
        have step1 := hr2.put (n := pb) hra ga
        have nNa : N ≠ ta := ((hfr pa ta ga).2).symm
        have nNb : N ≠ tb := ((hfr pb tb gb).2).symm
        have hw3 : (upd H' ta (.lst (vN (rowOf (ps.take i) pa) ++ [.int (pb : Int)]))) N = some (.lst ws) := by rw [upd_ne nNa]; exact hw2
        have hrb3 : ((rowsUpto m ps i).set pa (rowOf (ps.take i) pa ++ [pb]))[pb]? = some (rowOf (ps.take i) pb) := by
          rw [List.getElem?_set_ne (by omega)]
          exact hrb
        obtain ⟨tb2, gb2, lb3⟩ := step1.2.1 pb _ hrb3
        rw [gb] at gb2
        cases gb2
        -- near[greater].append(lesser)
        refine ⟨_, rfl, _, rfl, N, ws, _, .ref tb, rfl, rfl, sq_of hw3, atI_nat gb, .inl ⟨rfl, _, sq_of lb3⟩, _, rfl, tb, _, _, rfl, rfl, lb3, (by rw [vN_len]; exact small pb), ?_⟩
        have step2 := step1.put (n := pa) hrb3 gb
        rw [rows_step hpi h1 h2] at step2
        have ha0 : H ta = none := (hfr pa ta ga).1
        have hb0 : H tb = none := (hfr pb tb gb).1
        exact ⟨_, _, rfl, Ex.mut (Ex.mut e2 ha0) hb0, by rw [upd_ne nNb]; exact hw3, step2⟩
      · rintro σ H2 ⟨o3, o4, rfl, e2, hw2, hr2⟩
        rw [hlen, near_all] at hr2
        exact ⟨_, rfl, k N ws H2 e2 hN hw2 hr2 fun i t h => (hfr i t h).1⟩
theorem c_Web : Mak P w K mg base CX0 5 "Web" CWeb (spWebInit K CWeb) := by
  refine T.d_Web__init.mak T.hm_Web T.mk_Web sc_Web__init (fun vs H Q E h => ?_) (fun f cdv A outer s H vs Q E g hr h => ?_)
  · obtain ⟨H0, x, dx, m, v, ps, rfl, _⟩ := h
    rfl
  · obtain ⟨H0, x, dx, m, v, ps, rfl, hd, hg, e0, x0, hx, k⟩ := h
    have m2 := hg.m2
    have m10 := hg.m10
    refine ⟨_, (pss_cons (ps_if (pt_not (pt_val (ec (c_is_within T) g hr (by decide) pass0 (by rfl) (pa_cons (pv 1) (pa_cons (C8.pe_gc (by rfl) T.n_FEWEST) (pa_cons (C8.pe_gc (by rfl) T.n_MOST) pa_nil)))))) (pss_one ps_never) pss_nil)
    (pss_cons (ps_fld (pv 0) (ec (c_number_of T) g hr (by decide) pass0 (by rfl) (pa_cons (pv 1) pa_nil)) rfl)
    (pss_cons (ps_fld (pv 0) (ec (c_pairs_of T) g hr (by decide) pass0 (by rfl) (pa_cons (k_fld (K := K) rfl (pv 0) rfl) (pa_cons (pv 2) pa_nil))) rfl)
    (pss_cons (ps_if (pt_cmpR op_isN (k_fld (K := K) rfl (pv 0) rfl) pe_non (nomark _)) (pss_one ps_never) pss_nil)
    (pss_one (ps_fld (pv 0) (ec (c_near_lists T) g hr (by decide) pass0 (by rfl) (pa_cons (k_fld (K := K) rfl (pv 0) rfl) (pa_cons (k_fld (K := K) rfl (pv 0) rfl) pa_nil))) rfl)))))), ?_⟩
    refine q_when (b := !true) (et_not (et_B (ev_is (ev_cl (ea_cons (ev_var rfl) (ea_cons ev_c (ea_cons ev_c ea_nil))) sv_withinD) (by
      have h1 : (2 : Int) ≤ (m : Int) := by omega
      have h2 : (m : Int) ≤ 10 := by omega
      rw [decide_eq_true h1, decide_eq_true h2]
      rfl)))) (fun h => nomatch h) fun _ H1 e1 => ?_
    -- self._many = number_of(many)
    refine ⟨_, rfl, _, _, rfl, .int K _ _, fun H2 e2 => ⟨_, rfl, x, CWeb, dx, _, rfl, e2 _ _ (e1 _ _ hx), T.cl_Web, T.a_Web_many, (by show 0 < 1000; decide), ?_⟩⟩
    have g2 : Ex H0 H2 := (e0.trans e1).trans e2
    have g3 : Ex H0 (upd H2 x (.ins CWeb dx (putF "_many" (optV (some (m : Int))) []))) := Ex.mut g2 x0
    -- self._pairs = pairs_of(self._many, pairs)
    refine ⟨_, rfl, x, CWeb, dx, _, _, rfl, upd_same, T.cl_Web, T.a_Web_many, rfl, _, rfl, v, m, ps, rfl, Dp.ex hd g3, hg, fun a1 ws1 H4 e4 f1 la1 p1 => ⟨_, rfl, x, CWeb, dx, _, rfl, e4 _ _ upd_same, T.cl_Web, T.a_Web_pairs, (by show 1 < 1000; decide), ?_⟩⟩
    have g4 : Ex H0 H4 := g3.trans e4
    have hx4 : H4 x = some (.ins CWeb dx (putF "_many" (optV (some (m : Int))) [])) := e4 _ _ upd_same
    have hdA : Dp K (upd H4 x (.ins CWeb dx (putF "_pairs" (.ref a1) (putF "_many" (optV (some (m : Int))) [])))) (.ref a1) (dPs ps) := dp_ins hx4 _ _ (p1.dp (sq_of la1))
    have g5 : Ex H0 (upd H4 x (.ins CWeb dx (putF "_pairs" (.ref a1) (putF "_many" (optV (some (m : Int))) [])))) := Ex.mut g4 x0
    -- if self._pairs is None
    refine ⟨_, rfl, x, CWeb, dx, _, _, rfl, upd_same, T.cl_Web, T.a_Web_pairs, rfl, rfl, _, rfl, ?_⟩
    -- self._near = near_lists(self._many, self._pairs)
    refine ⟨_, rfl, x, CWeb, dx, _, _, rfl, upd_same, T.cl_Web, T.a_Web_many, rfl, _, rfl, x, CWeb, dx, _, _, rfl, upd_same, T.cl_Web, T.a_Web_pairs, rfl, .ref a1, m, ps, rfl, hdA, hg, fun a2 ws2 H6 e6 f2 la2 r2 fr2 => ⟨_, rfl, x, CWeb, dx, _, rfl, e6 _ _ upd_same, T.cl_Web, T.a_Web_near, (by show 2 < 1000; decide), ?_⟩⟩
    have hx6 : H6 x = some (.ins CWeb dx (putF "_pairs" (.ref a1) (putF "_many" (optV (some (m : Int))) []))) := e6 _ _ upd_same
    have n1 : a1 ≠ x := ne_of la1 hx4 (by intro z; cases z)
    have n2 : a2 ≠ x := ne_of la2 hx6 (by intro z; cases z)
    have la16 : H6 a1 = some (.lst ws1) := e6 _ _ (by rw [upd_ne n1]; exact la1)
    have p16 : PairsIn (upd H6 x (.ins CWeb dx (putF "_near" (.ref a2) (putF "_pairs" (.ref a1) (putF "_many" (optV (some (m : Int))) []))))) ws1 ps := (((p1.ins hx4).ex e6).ins hx6)
    refine k _ (Ex.mut (g5.trans e6) x0) ⟨hg, dx, a1, a2, ws1, ws2, ?_, by rw [upd_ne n1]; exact la16, by rw [upd_ne n2]; exact la2, p16, r2.ins hx6, x0, fresh_back g3 f1, fresh_back g5 f2, fun i t h => fresh_back g5 (fr2 i t h)⟩
    rw [upd_same, ← webF_put]
    rfl
theorem c_Web_many : Met P w K mg base CX0 1 CWeb "many" (spMany K CWeb) := by
  refine T.d_Web_many.met T.cl_Web sc_Web_many (fun vs H Q E h => ?_) (fun f cdv A outer s H vs Q E g hr h => ?_)
  · obtain ⟨p, m, ps, rfl, _⟩ := h
    rfl
  · obtain ⟨p, m, ps, rfl, ⟨hg, dx, a1, a2, hp, h1, h2⟩, k⟩ := h
    refine ⟨_, (pss_one (ps_ret (k_fld (K := K) rfl (pv 0) rfl))), ?_⟩
    exact s_ret (ev_fld (ev_var rfl) hp T.cl_Web T.a_Web_many (webF_many m a1 a2)) k
theorem c_Web_touches : Met P w K mg base CX0 1 CWeb "_touches" (spTouch K CWeb) := by
  refine T.d_Web_touches.met T.cl_Web sc_Web_touches (fun vs H Q E h => ?_) (fun f cdv A outer s H vs Q E g hr h => ?_)
  · obtain ⟨p, t, m, ps, i, row, rfl, _⟩ := h
    rfl
  · obtain ⟨p, t, m, ps, i, row, rfl, ⟨hg, dx, a1, a2, hp, h1, h2⟩, hi, ht, k⟩ := h
    obtain ⟨a, xs, e, hx, hlen, hrow⟩ := dNs_list h2
    cases e
    obtain ⟨u, hu, hu2⟩ := hrow i _ (nearOf_get hi)
    have few : (rowOf ps i).length ≤ 1000 := Nat.le_trans (List.length_filterMap_le ..) hg.few
    refine ⟨_, (pss_one (ps_ret (pe_callB (kcr (K := K) (r := rAny) (cr_any rfl) rfl) (by rfl) T.n_any (by decide +kernel) (pa_cons (pe_lc (own := [("near", 3)]) (g := (gName 3)) (tt := tYes) (by rfl) sc_Web_touches.nd (k_list (K := K) rfl (pe_ix (kix (K := K) (r := rIxL) ix_list rfl) (k_fld (K := K) rfl (pv 0) rfl) (pv 1) (fun _ _ => rfl))) (blkOk_by (own := [("near", 3)]) (N := ns_Web_touches) (sc := defScope s_Web_touches) (by decide +kernel)) (fun _ _ _ _ _ => (pg_name (i := 3) sc_Web_touches.nd rfl (Or.inl rfl))) (fun _ _ _ _ _ => pts_nil) (fun _ _ _ _ _ => (pe_cmpR (kop (K := K) (r := fun K => rIn K false) op_in_seq rfl) (pv 3) (pv 2) rfl))) pa_nil)))), ?_⟩
    have bs : (rowOf ps i).any (fun x => decide (x ∈ row)) = ((List.range (vN (rowOf ps i)).length).map fun j => decide ((rowOf ps i).getD j 0 ∈ row)).any id := by
      rw [vN_len, List.any_map, any_getD]
      rfl
    rw [bs] at k
    refine s_ret (ev_any ?_) k
    rw [← bl_map]
    refine el_map _ (ev_op (ev_fld (ev_var rfl) hp T.cl_Web T.a_Web_near (webF_near m a1 a2)) (ev_var rfl) (rv_ixL hx (atI_nat hu))) hu2 (by rw [vN_len]; omega) (fun _ => rfl) fun j x H1 e1 hj => ?_
    obtain ⟨n, rfl, hn⟩ := vN_at hj
    refine ev_is (ev_op (ev_var rfl) (ev_var rfl) (rv_isL (ex_l e1 ht) rfl (vN_flat row))) ?_
    rw [inV_nat, List.getD_eq_getElem?_getD, hn]
    rfl
theorem c_Web_clashes : Met P w K mg base CX0 2 CWeb "_clashes" (spClash K CWeb) := by
  refine T.d_Web_clashes.met T.cl_Web sc_Web_clashes (fun vs H Q E h => ?_) (fun f cdv A outer s H vs Q E g hr h => ?_)
  · obtain ⟨p, m, ps, i, j, rfl, _⟩ := h
    rfl
  · obtain ⟨p, m, ps, i, j, rfl, hW, hi, hj, k⟩ := h
    have hW' := hW
    obtain ⟨hg, dx, a1, a2, hp, h1, h2⟩ := hW'
    obtain ⟨a, xs, e, hx, hlen, hrow⟩ := dNs_list h2
    cases e
    obtain ⟨u, hu, hu2⟩ := hrow i _ (nearOf_get hi)
    obtain ⟨v, hv, hv2⟩ := hrow j _ (nearOf_get hj)
    refine ⟨_, (pss_cons (ps_if (pt_cmpR op_eq (pv 1) (pv 2) (nomark _)) (pss_one (ps_ret pe_bl)) pss_nil)
    (pss_one (ps_ret (pe_or (pe_cmpR (kop (K := K) (r := fun K => rIn K false) op_in_seq rfl) (pv 2) (pe_ix (kix (K := K) (r := rIxL) ix_list rfl) (k_fld (K := K) rfl (pv 0) rfl) (pv 1) (fun _ _ => rfl)) rfl) (pe_one (emt (c_Web_touches T) g hr (by decide) pass0 (pv 0) (pa_cons (pv 1) (pa_cons (pe_ix (kix (K := K) (r := rIxL) ix_list rfl) (k_fld (K := K) rfl (pv 0) rfl) (pv 2) (fun _ _ => rfl)) pa_nil)))))))), ?_⟩
    refine q_when (et_test (ev_op (ev_var rfl) (ev_var rfl) (rv_eq rfl))) (fun hb H1 e1 => ?_) fun hb H1 e1 => ?_
    · have e0 := of_decide_eq_true hb
      have eij : i = j := by
        have := V.int.inj e0
        omega
      subst eij
      refine s_ret ev_c fun H2 e2 => ?_
      have q : clash ps i i = false := by simp [clash]
      rw [q] at k
      exact k _ (e1.trans e2)
    · have e0 := of_decide_eq_false hb
      have nij : ¬ i = j := fun q => e0 (by rw [q])
      refine s_ret (v := .bl (clash ps i j)) (ev_is (ev_orV (a := adj ps i j) (b := touch ps i j) (ev_is (ev_op (ev_var rfl) (ev_op (ev_fld (ev_var rfl) (e1 _ _ hp) T.cl_Web T.a_Web_near (webF_near m a1 a2)) (ev_var rfl) (rv_ixL (ex_l e1 hx) (atI_nat hu))) (rv_isL (ex_l e1 hu2) rfl (vN_flat _))) ?_) (fun _ => ?_)) ?_) fun H2 e2 => k _ (e1.trans e2)
      · rw [inV_nat]
        rfl
      · refine ev_mt (ev_var rfl) (e1 _ _ hp) (no_m (by decide +kernel)) (ea_cons (ev_var rfl) (ea_cons (ev_op (ev_fld (ev_var rfl) (e1 _ _ hp) T.cl_Web T.a_Web_near (webF_near m a1 a2)) (ev_var rfl) (rv_ixL (ex_l e1 hx) (atI_nat hv))) ea_nil)) fun H2 e2 Q q E => ?_
        exact ⟨p, v, m, ps, i, rowOf ps j, rfl, hW.ex (e1.trans e2), hi, ex_l (e1.trans e2) hv2, q⟩
      · simp [clash, nij]
theorem c_Web_slots : Met P w K mg base CX0 3 CWeb "slots" (spSlots K CWeb) := by
  refine T.d_Web_slots.met T.cl_Web sc_Web_slots (fun vs H Q E h => ?_) (fun f cdv A outer s H vs Q E g hr h => ?_)
  · obtain ⟨p, m, ps, rfl, _⟩ := h
    rfl
  · obtain ⟨p, m, ps, rfl, hW, k⟩ := h
    have hW' := hW
    obtain ⟨hg, dx, a1, a2, hp, h1, h2⟩ := hW'
    have m10 := hg.m10
    refine ⟨_, (pss_cons (ps_set (i := 1) sc_Web_slots.nd rfl (Or.inr rfl) (pe_lst pa_nil))
    (pss_cons (ps_for PassesOwn.never rfl (pi_range1 (by rfl) T.n_range (pa_cons (k_fld (K := K) rfl (pv 0) rfl) pa_nil)) (pg_name (i := 2) sc_Web_slots.nd rfl (Or.inr rfl)) (pss_cons (ps_setLc (i := 3) (own := [("lesser", 4)]) (g := (gName 4)) (by rfl) sc_Web_slots.nd rfl rfl (sw_true rfl rfl rfl (by decide +kernel)) (pi_range1 (by rfl) T.n_range (pa_cons (pv 2) pa_nil)) (blkOk_by (own := [("lesser", 4)]) (N := ns_Web_slots) (sc := defScope s_Web_slots) (by decide +kernel)) (fun _ _ _ _ _ => (pg_name (i := 4) sc_Web_slots.nd rfl (Or.inl rfl))) (fun _ _ _ _ _ => pts_one (pt_val (emt (c_Web_clashes T) g hr (by decide) pass0 (pv 0) (pa_cons (pv 4) (pa_cons (pv 2) pa_nil))))) (fun _ _ _ _ _ => (pe_ix (kix (K := K) (r := rIxL) ix_list rfl) (pv 1) (pv 4) (fun _ _ => rfl))))
        (pss_one (ps_expr (k_bm (K := K) rfl PySem.F.plainAttrs_list PySem.F.slot_list_append PySem.F.type_list_append mt_append (pv 1) (pa_cons (ec (c_least_free T) g hr (by decide) pass0 (by rfl) (pa_cons (pv 3) pa_nil)) pa_nil))))))
    (pss_one (ps_ret (pv 1))))), ?_⟩
    refine q_asgL (el_lst ea_nil (Nat.zero_le _)) fun l H1 l0 e1 hl => ?_
    refine q_forR1 (n := (m : Int)) (ea_cons (ev_fld (ev_var rfl) (e1 _ _ hp) T.cl_Web T.a_Web_many (webF_many m a1 a2)) ea_nil) ⟨by omega, by omega⟩ (fun i σ' H' => ∃ o2 o3, σ' = [some (.ref p), some (.ref l), o2, o3, none] ∧ Ex H H' ∧ H' l = some (.lst (vN (slotsUpto ps i)))) (fun H2 e2 => ⟨none, none, rfl, e1.trans e2, e2 _ _ hl⟩) ?_ ?_
    · rintro i σ' H' hi ⟨o2, o3, rfl, e2, hl2⟩
      have him : i < m := by omega
      have hlen : (slotsUpto ps i).length = i := slots_len ps i
      -- barred
      refine q_asgL (xs := vN (((List.range i).filter fun l => clash ps l i).map fun l => (slotsUpto ps i).getD l 0)) ?_ fun b H3 b0 e3 hb => ?_
      · have lc := el_lcR1 (ta := tCons (tVar 2) tNil) (σ := [some (V.ref p), some (.ref l), some (.int (i : Int)), o3, none]) (H := H') (j := 4) (vs := [4]) (n := (i : Int)) (t := tB (tMt CWeb "_clashes" (spClash K CWeb) E0 (tVar 0) (tCons (tVar 4) (tCons (tVar 2) tNil)))) (te := tOp (rIxL K) (tVar 1) (tVar 4)) (fun j => clash ps j i) (fun j => V.int (((slotsUpto ps i).getD j 0 : Nat) : Int)) (ea_cons (ev_var rfl) ea_nil) ⟨by omega, by omega⟩ (fun _ => rfl)
          (fun j H4 e4 hj => et_B (ev_mt (ev_var rfl) (e4 _ _ (e2 _ _ hp)) (no_m (by decide +kernel)) (ea_cons (ev_var rfl) (ea_cons (ev_var rfl) ea_nil)) (sv_clash (hW.ex (e2.trans e4)) (by omega) him)))
          (fun j H4 e4 hj _ => ev_op (ev_var rfl) (ev_var rfl) (rv_ixL (sq_of (e4 _ _ hl2)) (atI_nat (by
            have hj2 : j < (slotsUpto ps i).length := by omega
            refine vN_get ?_
            rw [List.getD_eq_getElem?_getD, List.getElem?_eq_getElem hj2]
            rfl))))
        have ev : given (i : Int).toNat (fun j => clash ps j i) (fun j => V.int (((slotsUpto ps i).getD j 0 : Nat) : Int)) = vN (((List.range i).filter fun l => clash ps l i).map fun l => (slotsUpto ps i).getD l 0) := by
          unfold given vN
          rw [List.map_map, Int.toNat_natCast]
          rfl
        rw [ev] at lc
        exact lc
      · -- told.append(least_free(barred))
        have hl3 := e3 _ _ hl2
        refine s_app (xs := vN (slotsUpto ps i)) hl3 (ev_var rfl) (ev_cl (ea_cons (ev_var rfl) ea_nil) (fun H4 e4 Q q E => ⟨b, _, rfl, sq_of (e4 _ _ hb), q⟩)) (by rw [vN_len]; omega) fun H4 e4 => ?_
        refine ⟨_, _, rfl, Ex.mut ((e2.trans e3).trans e4) l0, ?_⟩
        rw [upd_same]
        show some (HO.lst (vN (slotsUpto ps i) ++ _)) = some (HO.lst (vN (slotsUpto ps i ++ _)))
        unfold vN
        rw [List.map_append]
        rfl
    · rintro σ' H' ⟨o2, o3, rfl, e2, hl2⟩
      rw [Int.toNat_natCast] at hl2
      exact s_ret (ev_var rfl) fun H3 e3 => k l H3 l0 (e2.trans e3) (e3 _ _ hl2)
end
end K28
end
section
set_option Elab.async false
set_option linter.all false
set_option maxRecDepth 100000
set_option maxHeartbeats 4000000
namespace K28
local macro_rules | `(tactic| walk_at "pos") => `(tactic| (show (0 : Int) < _; first | decide | omega))
open PySem PySem.Spec PyProof.Rows L2 Lf 
open Evl
local macro_rules | `(tactic| walk_at "lk") => `(tactic| (simp (disch := decide +kernel) only [lk_hit, lk_miss, lk_nil]))
local macro_rules | `(tactic| walk_at "pf") => `(tactic| (simp (disch := decide +kernel) only [pf_hit, pf_miss, pf_nil]))
/-! plans, places: what is handed in fits -/
structure PlZ (z : Str) : Prop where
  lo : 1 ≤ z.length
  hi : z.length ≤ 8
  ok : ∀ c ∈ z.cps.toList, c ∈ ("ws" : Str).cps.toList
theorem PlZ.str {z : Str} (h : PlZ z) : PyData.strOk z = true := by
  show z.cps.all (· < 0x110000) = true
  rw [← Array.all_toList]
  refine List.all_eq_true.mpr fun c hc => ?_
  have := h.ok c hc
  have e : ("ws" : Str).cps.toList = [119, 115] := by decide
  rw [e] at this
  simp only [List.mem_cons, List.not_mem_nil, or_false] at this
  rcases this with rfl | rfl <;> decide
structure Pl where
  r : Int
  e : Int
  b : Int
  n : Int
  z : Str
def Pl.row (p : Pl) : List V := [.int p.r, .int p.e, .int p.b, .int p.n, .str p.z]
structure Pl.Ok (p : Pl) (most : Int) : Prop where
  r : -most ≤ p.r ∧ p.r ≤ most
  b : 0 ≤ p.b ∧ p.b ≤ 1000000000
  e : -p.b ≤ p.e ∧ p.e ≤ p.b
  n : 0 ≤ p.n ∧ p.n ≤ 1000000000
  z : PlZ p.z
def Pl.d (p : Pl) : PyData := .tuple [.int p.r, .int p.e, .int p.b, .int p.n, .str p.z]
theorem Pl.dp {K : PySem.W.Frag} {H : Hp} {p : Pl} {u : Addr} (h : H u = some (.tup p.row)) : Dp K H (.ref u) p.d := .tup (st_of h) (.cons (.int _) (.cons (.int _) (.cons (.int _) (.cons (.int _) (.cons (.str _) .nil)))))
def spText : Sp := fun vs H Q _ => ∃ z : Str, vs = [.str z] ∧ z.length ≤ 1000 ∧ RetV (.str z) H Q
def spSize : Sp := fun vs H Q _ => ∃ i : Int, vs = [.int i] ∧ RetV (.bl (inB (some i) 0 1000000000)) H Q
def spPlanOk (P : Addr) : Sp := fun vs H Q _ => ∃ z : Str, vs = [.str z] ∧ PlZ z ∧ GxR.TabG H P ∧ ∀ H', TbS P H H' → Q (.bl true) H'
def spPlaceOf (P : Addr) : Sp := fun vs H Q _ => ∃ (t : Addr) (p : Pl) (most : Int), vs = [.ref t, .int most] ∧ H t = some (.tup p.row) ∧ p.Ok most ∧ GxR.TabG H P ∧ ∀ u H', TbS P H H' → H u = none → H' u = some (.tup p.row) → Q (.ref u) H'
def spPlacesOf (P : Addr) : Sp := fun vs H Q _ => ∃ (l : Addr) (xs : List V) (rs : List Pl) (drift : Int), vs = [.int (rs.length : Int), .ref l, .int drift] ∧ H l = some (.lst xs) ∧ Tups H xs (rs.map Pl.row) ∧ rs.length ≤ 10 ∧ (∀ p ∈ rs, p.Ok drift) ∧ (0 ≤ drift ∧ drift ≤ 1000000000) ∧ GxR.TabG H P ∧
  ∀ (u : Addr) (ys : List V) (H' : Hp), TbS P H H' → H u = none → H' u = some (.lst ys) → Tups H' ys (rs.map Pl.row) → Q (.ref u) H'
theorem join1 (z : Str) : Txt.join "" [z] = z := by
  show Builtin.Str.glued "" [z] = z
  rw [PySem.StrLaws.glued_eq_join]
  rfl
theorem orF {t u : TT} {σ : L2.St} {H : Hp} {Q : Bool → Hp → Prop} (h : EvT t σ H false) (k : ∀ H1, Ex H H1 → u σ H1 Q) : tOr t u σ H Q := h H (Ex.refl _) _ fun H1 e => k H1 e
theorem q_orF {t u : TT} {ta tz : TS} {D : Ends} {σ : L2.St} {H : Hp} (h : EvT t σ H false) (k : ∀ H1, Ex H H1 → tSeq (tIfS u ta tNext) tz D σ H1) : tSeq (tIfS (tOr t u) ta tNext) tz D σ H := h H (Ex.refl _) _ fun H1 e => k H1 e
theorem inB_in {i lo hi : Int} (h : lo ≤ i ∧ i ≤ hi) : inB (some i) lo hi = true := by
  show (decide (lo ≤ i) && decide (i ≤ hi)) = true
  rw [decide_eq_true h.1, decide_eq_true h.2]
  rfl
theorem non_in (rs : List Pl) : ((rs.map Pl.d).any fun z => PyData.eqv z .none) = false := by
  rw [List.any_eq_false]
  intro d hd
  obtain ⟨p, _, rfl⟩ := List.mem_map.mp hd
  exact fun h => Bool.noConfusion h
theorem sh_pl (p : Pl) (hz : PyData.strOk p.z = true) : Wm.Sh 1 p.d := Wm.Sh.tup (n := 0) fun d hd => by
  simp only [List.mem_cons, List.not_mem_nil, or_false] at hd
  rcases hd with rfl | rfl | rfl | rfl | rfl
  · exact Wm.Sh.int _
  · exact Wm.Sh.int _
  · exact Wm.Sh.int _
  · exact Wm.Sh.int _
  · exact ⟨hz, Nat.le_refl _⟩
section
variable {P : Program} {w : World} {K : PySem.W.Frag} {mg : Str → Option Value} {base : Heap} {CWeb CTerms cT pT : Addr} (T : Top K mg base CWeb CTerms cT pT)
include T
theorem c_text_of : Cal P w K mg base CX0 1 "text_of" spText := by
  refine T.d_text_of.cal sc_text_of (fun vs H Q E h => ?_) (fun f cdv A outer s H vs Q E g hr h => ?_)
  · obtain ⟨z, rfl, _⟩ := h
    rfl
  · obtain ⟨z, rfl, hz, k⟩ := h
    refine ⟨_, (pss_cons (ps_if (pt_not (pt_val (pe_callB (kcr (K := K) (r := rIsi) call_isi rfl) (by rfl) T.n_isinstance (by decide +kernel) (pa_cons (pv 0) (pa_cons (pe_bltn (v := .ty "str") (by rfl) T.n_str (by decide +kernel) rfl) pa_nil))))) (pss_one (ps_ret pe_non)) pss_nil)
    (pss_one (ps_ret (k_bm (K := K) rfl PySem.F.plainAttrs_str PySem.F.slot_str_join PySem.F.type_str_join mt_join pe_str (pa_cons (pe_lst (pa_cons (pv 0) pa_nil)) pa_nil))))), ?_⟩
    refine ⟨_, rfl, .str z, .ty "str", _, .type "str", true, rfl, .ty _, .base (.str z), kit_ty (by decide +kernel), true, rfl, iteF ?_⟩
    refine ⟨rfl, _, rfl, by show 1 ≤ sizeLine; decide, fun l hl => ⟨"", l, [z], rfl, rfl, .inl (sq_of upd_same), ?_, ?_⟩⟩
    · show z.length + 0 + 1 * 0 ≤ 16777216
      omega
    · rw [join1]
      exact k _ (Ex.new hl)
theorem c_is_size : Cal P w K mg base CX0 3 "is_size" spSize := by
  refine T.d_is_size.cal sc_is_size (fun vs H Q E h => ?_) (fun f cdv A outer s H vs Q E g hr h => ?_)
  · obtain ⟨i, rfl, _⟩ := h
    rfl
  · obtain ⟨i, rfl, k⟩ := h
    refine ⟨_, (pss_one (ps_ret (ec (c_is_within T) g hr (by decide) pass0 (by rfl) (pa_cons (pv 0) (pa_cons pe_int (pa_cons (C8.pe_gc (by rfl) T.n_LARGEST_SIZE) pa_nil)))))), ?_⟩
    exact s_ret (ev_cl (ea_cons (ev_var rfl) (ea_cons ev_c (ea_cons ev_c ea_nil))) (sv_within K H i 0 1000000000)) k
theorem c_is_plan : Cal P w K mg base CX0 2 "is_plan" (spPlanOk pT) := by
  refine T.d_is_plan.cal sc_is_plan (fun vs H Q E h => ?_) (fun f A outer s H vs Q E g hr h => ?_)
  · obtain ⟨z, rfl, _⟩ := h
    rfl
  · obtain ⟨z, rfl, hz, hT, k⟩ := h
    refine ⟨_, (pss_cons (ps_set (i := 1) sc_is_plan.nd rfl (Or.inl rfl) (ec (c_text_of T) g hr (by decide) pass0 (by rfl) (pa_cons (pv 0) pa_nil)))
    (pss_cons (ps_if (PW.pt (pw_or (pt_cmpR op_isN (pv 1) pe_non (nomark _)) (pw_or1 (pt_not (pt_chain op_le op_le pe_int (pe_callB call_len_str (by rfl) T.n_len PySem.boot_len (pa_cons (pv 1) pa_nil)) (C8.pe_gc (by rfl) T.n_LONGEST_PLAN)))))) (pss_one (ps_ret pe_bl)) pss_nil)
    (pss_one (ps_ret (GxR.pe_allS hr (by rfl) T.n_all (by decide +kernel) T.tb rfl (genS_one rfl) (pv 1) (elt_in rfl (by decide)) (fun _ => rfl)))))), ?_⟩
    have h1 := hz.lo
    have h8 := hz.hi
    have ln : z.length ≤ sizeLine := Nat.le_trans h8 (by decide)
    refine q_asg (ev_cl (ea_cons (ev_var rfl) ea_nil) (fun H1 e Q q E => ⟨z, rfl, by omega, q⟩)) fun H1 e1 => ?_
    refine q_when (b := false) (et_is (et_or (et_test (ev_op (ev_var rfl) ev_c (z := .bl false) (rv_val fun H e Q q => ⟨rfl, q⟩))) (fun _ => et_not (et_test (ev_chain ev_c (ev_cb (ea_cons (ev_var rfl) ea_nil) fun H2 e Q q => ⟨z, rfl, ln, q H2 (Ex.refl _)⟩) rv_I0 (fun _ => ev_c) (fun _ => rv_I0))))) ?_) (fun h => nomatch h) fun _ H2 e2 => ?_
    · show (false || !(decide ((1 : Int) ≤ (z.length : Int)) && decide ((z.length : Int) ≤ 8))) = false
      rw [decide_eq_true (by omega), decide_eq_true (by omega)]
      rfl
    · have e12 := e1.trans e2
      refine ⟨_, rfl, z, rfl, tab_ex hT e12, fun H3 t3 => ?_⟩
      have : z.cps.toList.all (fun c => decide (c ∈ ("ws" : Str).cps.toList)) = true := List.all_eq_true.mpr fun c hc => decide_eq_true (hz.ok c hc)
      rw [this]
      exact k H3 ((TbS.pure hT e12).trans (.of t3))
theorem c_place_of : Cal P w K mg base CX0 4 "place_of" (spPlaceOf pT) := by
  refine T.d_place_of.cal sc_place_of (fun vs H Q E h => ?_) (fun f cdv A outer s H vs Q E g hr h => ?_)
  · obtain ⟨t, p, most, rfl, _⟩ := h
    rfl
  · obtain ⟨t, p, most, rfl, ht, ok, hT, k⟩ := h
    refine ⟨_, (pss_cons (ps_set (i := 2) sc_place_of.nd rfl (Or.inl rfl) (ec (c_tuple_of T) g hr (by decide) pass0 (by rfl) (pa_cons (pv 0) pa_nil)))
    (pss_cons (ps_if (PW.pt (pw_or (pt_cmpR op_isN (pv 2) pe_non (nomark _)) (pw_or1 (pt_cmpR op_ne (pe_callB (k_len (K := K) rfl) (by rfl) T.n_len PySem.boot_len (pa_cons (pv 2) pa_nil)) (C8.pe_gc (by rfl) T.n_PLACE_PARTS) (nomark _))))) (pss_one (ps_ret pe_non)) pss_nil)
    (pss_cons (ps_asg (pv 2) (k_gtup (K := K) rfl (by rfl) (pgs_cons (pg_name (i := 3) sc_place_of.nd rfl (Or.inl rfl)) (pgs_cons (pg_name (i := 4) sc_place_of.nd rfl (Or.inl rfl)) (pgs_cons (pg_name (i := 5) sc_place_of.nd rfl (Or.inl rfl)) (pgs_cons (pg_name (i := 6) sc_place_of.nd rfl (Or.inl rfl)) (pgs_cons (pg_name (i := 7) sc_place_of.nd rfl (Or.inl rfl)) pgs_nil)))))))
    (pss_cons (ps_if (PW.pt (pw_or (pt_not (pt_val (ec (c_is_size T) g hr (by decide) pass0 (by rfl) (pa_cons (pv 5) pa_nil)))) (pw_or (pt_not (pt_val (ec (c_is_size T) g hr (by decide) pass0 (by rfl) (pa_cons (pv 6) pa_nil)))) (pw_or1 (pt_not (pt_val (ec (c_is_plan T) g hr (by decide) pass0 (by rfl) (pa_cons (pv 7) pa_nil)))))))) (pss_one (ps_ret pe_non)) pss_nil)
    (pss_cons (ps_set (i := 8) sc_place_of.nd rfl (Or.inl rfl) (ec (c_number_of T) g hr (by decide) pass0 (by rfl) (pa_cons (pv 5) pa_nil)))
    (pss_cons (ps_if (PW.pt (pw_or (pt_not (pt_val (ec (c_is_within T) g hr (by decide) pass0 (by rfl) (pa_cons (pv 3) (pa_cons (pe_un un_neg (pv 1)) (pa_cons (pv 1) pa_nil)))))) (pw_or1 (pt_not (pt_val (ec (c_is_within T) g hr (by decide) pass0 (by rfl) (pa_cons (pv 4) (pa_cons (pe_un un_neg (pv 8)) (pa_cons (pv 8) pa_nil))))))))) (pss_one (ps_ret pe_non)) pss_nil)
    (pss_one (ps_ret (pe_tup (pa_cons (ec (c_number_of T) g hr (by decide) pass0 (by rfl) (pa_cons (pv 3) pa_nil)) (pa_cons (ec (c_number_of T) g hr (by decide) pass0 (by rfl) (pa_cons (pv 4) pa_nil)) (pa_cons (pv 8) (pa_cons (ec (c_number_of T) g hr (by decide) pass0 (by rfl) (pa_cons (pv 6) pa_nil)) (pa_cons (ec (c_text_of T) g hr (by decide) pass0 (by rfl) (pa_cons (pv 7) pa_nil)) pa_nil)))))))))))))), ?_⟩
    refine q_asg (ev_cl (ea_cons (ev_var rfl) ea_nil) (fun H1 e Q q E => ⟨t, _, rfl, st_of (e _ _ ht), q⟩)) fun H1 e1 => ?_
    have ht1 := e1 _ _ ht
    refine q_when (b := false) (et_is (et_or (et_test (ev_op (ev_var rfl) ev_c (z := .bl false) (rv_val fun H e Q q => ⟨rfl, q⟩))) (fun _ => et_test (ev_op (ev_lenT (ev_var rfl) (st_of ht1)) ev_c (rv_ne rfl)))) (by show (false || !decide (V.int 5 = V.int 5)) = false; rfl)) (fun h => nomatch h) fun _ H2 e2 => ?_
    have ht2 := e2 _ _ ht1
    refine ⟨_, rfl, t, _, rfl, st_of ht2, rfl, _, _, rfl, _, _, rfl, _, _, rfl, _, _, rfl, _, _, rfl, rfl, ?_⟩
    have size : ∀ {i : Int} {σ : L2.St} {H1 : Hp} {j : Nat}, 0 ≤ i ∧ i ≤ 1000000000 → σ[j]? = some (some (.int i)) → EvT (tNot (tB (tCl spSize E0 (tCons (tVar j) tNil)))) σ H1 false := fun {i σ H1 j} hi hj => et_is (et_not (et_B (ev_cl (ea_cons (ev_var hj) ea_nil) (fun H1 e Q q E => ⟨i, rfl, q⟩)))) (by rw [inB_in hi]; rfl)
    refine q_orF (size ok.b rfl) fun H3 e3 => q_orF (size ok.n rfl) fun H4 e4 => ?_
    have e14 := ((e1.trans e2).trans e3).trans e4
    refine ⟨.str p.z, rfl, p.z, rfl, ok.z, tab_ex hT e14, fun H5 t5 => ⟨true, rfl, iteF ?_⟩⟩
    have t05 := (TbS.pure hT e14).trans t5
    refine q_asg (ev_cl (ea_cons (ev_var rfl) ea_nil) (sv_number K _ _)) fun H6 e6 => ?_
    refine q_when (b := false) (et_is (et_or (et_not (et_B (ev_cl (ea_cons (ev_var rfl) (ea_cons (ev_un (ev_var rfl) ru_neg) (ea_cons (ev_var rfl) ea_nil))) (sv_within K _ _ _ _)))) (fun _ => et_not (et_B (ev_cl (ea_cons (ev_var rfl) (ea_cons (ev_un (ev_var rfl) ru_neg) (ea_cons (ev_var rfl) ea_nil))) (sv_within K _ _ _ _))))) (by rw [inB_in ok.r, inB_in ok.e]; rfl)) (fun h => nomatch h) fun _ H7 e7 => ?_
    have num : ∀ {i : Int} {σ : L2.St} {H1 : Hp} {j : Nat}, σ[j]? = some (some (.int i)) → Ev (tCl (spNumber K) E0 (tCons (tVar j) tNil)) σ H1 (.int i) := fun hj => ev_cl (ea_cons (ev_var hj) ea_nil) (sv_number K _ _)
    have z8 := ok.z.hi
    have t07 := t05.trans (.pure t05.1 (e6.trans e7))
    exact s_retU (eu_tup (ea_cons (num rfl) (ea_cons (num rfl) (ea_cons (ev_var rfl) (ea_cons (num rfl) (ea_cons (ev_cl (ea_cons (ev_var rfl) ea_nil) (fun H1 e Q q E => ⟨p.z, rfl, by omega, q⟩)) ea_nil))))) (by show 5 ≤ 100000; decide)) fun u H8 u0 e8 hu => k u H8 (t07.trans (.pure t07.1 e8)) (t07.free hT u0) hu
theorem c_places_of : Cal P w K mg base CX0 5 "places_of" (spPlacesOf pT) := by
  refine T.d_places_of.cal sc_places_of (fun vs H Q E h => ?_) (fun f cdv A outer s H vs Q E g hr h => ?_)
  · obtain ⟨l, xs, rs, drift, rfl, _⟩ := h
    rfl
  · obtain ⟨l, xs, rs, drift, rfl, hl, hx, hn, ok, hd, hT, k⟩ := h
    refine ⟨_, (pss_cons (ps_set (i := 3) sc_places_of.nd rfl (Or.inl rfl) (ec (c_list_of T) g hr (by decide) pass0 (by rfl) (pa_cons (pv 1) pa_nil)))
    (pss_cons (ps_if (PW.pt (pw_or (pt_cmpR op_isN (pv 3) pe_non (nomark _)) (pw_or1 (pt_cmpR op_ne (pe_callB (k_len (K := K) rfl) (by rfl) T.n_len PySem.boot_len (pa_cons (pv 3) pa_nil)) (pv 0) (nomark _))))) (pss_one (ps_ret pe_non)) pss_nil)
    (pss_cons (ps_set (i := 4) sc_places_of.nd rfl (Or.inr rfl) (pe_ifExp (pt_val (ec (c_is_size T) g hr (by decide) pass0 (by rfl) (pa_cons (pv 2) pa_nil))) (ec (c_number_of T) g hr (by decide) pass0 (by rfl) (pa_cons (pv 2) pa_nil)) (C8.pe_gc (by rfl) T.n_LARGEST_SIZE)))
    (pss_cons (ps_setLc (i := 5) (own := [("each", 6)]) (g := (gName 6)) (tt := tYes) (by rfl) sc_places_of.nd rfl rfl (sw_true rfl rfl rfl (by decide +kernel)) (k_list (K := K) rfl (pv 3)) (blkOk_by (own := [("each", 6)]) (N := ns_places_of) (sc := defScope s_places_of) (by decide +kernel)) (fun _ _ _ _ _ => (pg_name (i := 6) sc_places_of.nd rfl (Or.inl rfl))) (fun _ _ _ _ _ => pts_nil) (fun _ _ _ _ _ => (ec (c_place_of T) g hr (by decide) pass0 (by rfl) (pa_cons (pv 6) (pa_cons (pv 4) pa_nil)))))
    (pss_one (ps_ret (pe_ifExp (pt_cmpR (kop (K := K) (r := rNotInD) (op_notInD (u65 hr)) rfl) pe_non (pv 5) rfl) (pv 5) pe_non))))))), ?_⟩
    refine q_asgL (el_cl (ea_cons (ev_var rfl) ea_nil) (fun H1 e Q q E => ⟨l, xs, rfl, sq_of (e _ _ hl), q⟩)) fun ll H1 ll0 e1 hll => ?_
    have hxl : xs.length = rs.length := by rw [hx.1, List.length_map]
    refine q_when (b := false) (et_is (et_or (et_test (ev_op (ev_var rfl) ev_c (z := .bl false) (rv_val fun H e Q q => ⟨rfl, q⟩))) (fun _ => et_test (ev_op (ev_lenL (ev_var rfl) (sq_of hll)) (ev_var rfl) (rv_ne rfl)))) (by rw [hxl, decide_eq_true rfl]; rfl)) (fun h => nomatch h) fun _ H2 e2 => ?_
    refine q_asg (ev_if (et_B (ev_is (ev_cl (ea_cons (ev_var rfl) ea_nil) (fun H1 e Q q E => ⟨drift, rfl, q⟩)) (congrArg V.bl (inB_in hd)))) (fun _ => ev_cl (ea_cons (ev_var rfl) ea_nil) (sv_number K _ _)) (fun z => nomatch z)) fun H3 e3 => ?_
    have e13 := (e1.trans e2).trans e3
    have t3 : TbS pT H H3 := .pure hT e13
    have hll3 := e3 _ _ (e2 _ _ hll)
    have hx3 := tups_tb hx hT t3
    refine ⟨_, rfl, ll, rfl, ⟨_, sq_of hll3⟩, fun D hD => lc_list (xs := xs) (fun i H' => TbS pT H H' ∧ H' ll = some (.lst xs) ∧ ∃ ws, H' D = some (.lst ws) ∧ Tups H' ws ((rs.take i).map Pl.row)) ⟨t3.trans (.new t3.1 hD), Ex.new hD _ _ hll3, [], upd_same, Tups.nil⟩ (fun i H' _ p => sq_of p.2.1) ?_ ?_⟩
    · rintro i x H' hxi ⟨t4, hl4, ws, hw, hp⟩
      have hil : i < rs.length := by have := (List.getElem?_eq_some_iff.mp hxi).1; omega
      have er : rs[i]? = some rs[i] := List.getElem?_eq_getElem hil
      obtain ⟨u, hu1, hu⟩ := hx.2 i _ (by rw [List.getElem?_map, er]; rfl)
      rw [hxi] at hu1
      cases hu1
      have hu4 := t4.at (TbS.ne hT hu fun _ z => nomatch z) hu
      refine ⟨rfl, _, rfl, _, rfl, u, rs[i], drift, rfl, hu4, ok _ (List.getElem_mem hil), t4.1, fun q H5 t5 q0 hq => ?_⟩
      have nD : D ≠ pT := TbS.ne t4.1 hw fun _ z => nomatch z
      have hw5 := t5.at nD hw
      have hws : ws.length = i := by rw [hp.1, List.length_map, List.length_take]; omega
      have hp5 := tups_tb hp t4.1 t5
      have t05 := t4.trans t5
      have D0 : H D = none := t3.free hT hD
      have et : rs.take (i + 1) = rs.take i ++ [rs[i]] := by rw [List.take_add_one, er]; rfl
      refine ⟨ws, hw5, sz_lt (by omega), ⟨?_, fun b o hb => ?_⟩, ?_, ws ++ [.ref q], upd_same, ?_⟩
      · obtain ⟨ps, p1, p2⟩ := t05.1
        exact ⟨ps, by rw [upd_ne (Ne.symm nD)]; exact p1, p2⟩
      · have := t05.2 b o hb
        by_cases hbp : b = pT
        · rw [hbp, mask_self] at hb
          cases hb
        · rw [mask_at hbp] at hb this ⊢
          rw [upd_ne (fun z => by rw [z, D0] at hb; cases hb)]
          exact this
      · rw [upd_ne (fun z => by rw [z, hw] at hl4; exact absurd hl4 (by intro y; have hll0 := hll3; rw [z, hD] at hll0; cases hll0))]
        exact t5.at (TbS.ne t4.1 hl4 fun _ z => nomatch z) hl4
      · rw [et, List.map_append]
        refine Tups.snoc (hp5.mut fun r z => by rw [hw5] at z; cases z) ?_
        rw [upd_ne (fun z => by rw [z, hw] at q0; cases q0)]
        exact hq
    · rintro H4 ⟨t4, hl4, ws, hw, hp⟩
      rw [hxl, List.take_length] at hp
      have hdp : Dp K H4 (.ref D) (.list (rs.map Pl.d)) := .lst (sq_of hw) (dps_of_tups Pl.row Pl.d (fun a t ht => Pl.dp ht) hp)
      refine ⟨_, rfl, .none, _, .non, hdp, rfl, ?_, !false, ?_, iteT ⟨_, rfl, k D ws H4 t4 (t3.free hT hD) hw hp⟩⟩
      · exact (Wm.Sh.list (n := 1) fun d hd => by
          obtain ⟨p, hp', rfl⟩ := List.mem_map.mp hd
          exact sh_pl p (ok p hp').z.str).shaped (by decide)
      · rw [non_in]
end
end K28
end
section
set_option Elab.async false
set_option linter.all false
set_option maxRecDepth 100000
set_option maxHeartbeats 4000000
namespace K28
local macro_rules | `(tactic| walk_at "pos") => `(tactic| (show (0 : Int) < _; first | decide | omega))
open PySem PySem.Spec PyProof.Rows L2 Lf 
open Evl
local macro_rules | `(tactic| walk_at "lk") => `(tactic| (simp (disch := decide +kernel) only [lk_hit, lk_miss, lk_nil]))
local macro_rules | `(tactic| walk_at "pf") => `(tactic| (simp (disch := decide +kernel) only [pf_hit, pf_miss, pf_nil]))
open Wm
/-! making terms that fit -/
structure Trm where
  m : Nat
  ps : PS
  rs : List Pl
  sm : Nat
  q : Int
  d : Int
  j : Int
  g : Int
  li : Int
  sp : Int
  it : Int
def IsSm (m : Nat) (ps : PS) (s : Nat) : Prop := (∀ x ∈ slotsUpto ps m, x < s) ∧ ∃ x ∈ slotsUpto ps m, x + 1 = s
structure Trm.Ok (t : Trm) : Prop where
  web : Good t.m t.ps
  many : t.rs.length + 1 = t.m
  rs : ∀ p ∈ t.rs, p.Ok t.d
  sm : IsSm t.m t.ps t.sm
  q : 1 ≤ t.q ∧ t.q ≤ 20
  d : 0 ≤ t.d ∧ t.d ≤ 1000000000
  j : 0 ≤ t.j ∧ t.j ≤ 1000000000
  g : 0 ≤ t.g ∧ t.g ≤ 1000000000
  li : 0 ≤ t.li ∧ t.li ≤ 1000000000
  sp : 0 ≤ t.sp ∧ t.sp ≤ 1000000000
  it : 0 ≤ t.it ∧ t.it ≤ 1000000000
  tight : 2 * t.g < 1000000 / (t.sm : Int)
  room : (t.m : Int) * (t.j + t.d * (t.q + 1)) ≤ t.g
def Trm.fs (t : Trm) (w pl : Addr) : List (Str × V) := [("web", .ref w), ("_slots_many", .int (t.sm : Int)), ("_places", .ref pl), ("quiet", .int t.q), ("drift", .int t.d), ("jitter", .int t.j), ("guard", .int t.g), ("listen", .int t.li), ("speak", .int t.sp), ("item", .int t.it)]
theorem slots_lt (ps : PS) : ∀ (n x : Nat), x ∈ slotsUpto ps n → x < n
  | 0, x, h => by cases h
  | n + 1, x, h => by
    rcases List.mem_append.mp (show x ∈ slotsUpto ps n ++ _ from h) with h | h
    · exact Nat.lt_succ_of_lt (slots_lt ps n x h)
    · have h := List.mem_singleton.mp h
      subst h
      refine Nat.lt_succ_of_le (Nat.le_trans (least_le _) ?_)
      rw [List.length_map]
      refine Nat.le_trans (List.length_filter_le _ _) ?_
      rw [List.length_range]
      exact Nat.le_refl _
theorem sm_le {m : Nat} {ps : PS} {s : Nat} (h : IsSm m ps s) (hm : m ≤ 10) : 1 ≤ s ∧ s ≤ 10 := by
  obtain ⟨x, hx, e⟩ := h.2
  have := slots_lt ps m x hx
  omega
/-- told in a heap, behind making: what is new of it is new since H0 -/
def TermsNew (C : Addr) (H0 H : Hp) (x w : Addr) (t : Trm) : Prop := t.Ok ∧ ∃ dx pl ys, H x = some (.ins C dx (t.fs w pl)) ∧ H0 x = none ∧ H0 pl = none ∧ H pl = some (.lst (.non :: ys)) ∧ Tups H ys (t.rs.map Pl.row)
def TermsAt (K : PySem.W.Frag) (C CW : Addr) (H : Hp) (x : Addr) (t : Trm) : Prop := t.Ok ∧ ∃ dx w pl ys, H x = some (.ins C dx (t.fs w pl)) ∧ WebAt K CW H w t.m t.ps ∧ H pl = some (.lst (.non :: ys)) ∧ Tups H ys (t.rs.map Pl.row)
theorem web_kp {K : PySem.W.Frag} {C : Addr} {H H' : Hp} {p : Addr} {m : Nat} {ps : PS} (h : WebAt K C H p m ps) (k : Kp H H') : WebAt K C H' p m ps := by
  obtain ⟨g, dx, a1, a2, h1, h2, h3⟩ := h
  exact ⟨g, dx, a1, a2, k _ _ h1 (fun _ z => nomatch z), dp_kp k _ _ h2, dp_kp k _ _ h3⟩
theorem TermsAt.ex {K : PySem.W.Frag} {C CW : Addr} {H H' : Hp} {x : Addr} {t : Trm} (h : TermsAt K C CW H x t) (e : Ex H H') : TermsAt K C CW H' x t := by
  obtain ⟨ok, dx, w, pl, ys, h1, h2, h3, h4⟩ := h
  exact ⟨ok, dx, w, pl, ys, e _ _ h1, h2.ex e, e _ _ h3, h4.ex e⟩
def spTermsInit (K : PySem.W.Frag) (P C CW : Addr) : Sp := fun vs H Q _ => ∃ (H0 : Hp) (x dx w l : Addr) (t : Trm) (xs : List V), vs = [.ref x, .ref w, .ref l, .int t.q, .int t.d, .int t.j, .int t.g, .int t.li, .int t.sp, .int t.it] ∧ t.Ok ∧ WebAt K CW H0 w t.m t.ps ∧ H0 l = some (.lst xs) ∧ Tups H0 xs (t.rs.map Pl.row) ∧ GxR.TabG H0 P ∧
  TbS P H0 H ∧ H0 x = none ∧ H x = some (.ins C dx []) ∧ ∀ H', TbS P H0 H' → TermsNew C H0 H' x w t → Q .non H'
def spWidth (C : Addr) : Sp := fun vs H Q _ => ∃ (x dx : Addr) (fs : List (Str × V)) (sm : Nat), vs = [.ref x] ∧ H x = some (.ins C dx fs) ∧ fs.lookup ("_slots_many" : Str) = some (V.int (sm : Int)) ∧ (1 ≤ sm ∧ sm ≤ 10) ∧ RetV (.int (1000000 / (sm : Int))) H Q
def spTMany (K : PySem.W.Frag) (C CW : Addr) : Sp := fun vs H Q _ => ∃ (x dx w : Addr) (fs : List (Str × V)) (m : Nat) (ps : PS), vs = [.ref x] ∧ H x = some (.ins C dx fs) ∧ fs.lookup ("web" : Str) = some (V.ref w) ∧ WebAt K CW H w m ps ∧ RetV (.int (m : Int)) H Q
section
variable {K : PySem.W.Frag} {σ : L2.St} {H : Hp}
theorem el_nonStar {te : TE} {a : Addr} {ys : List V} (h : Ev te σ H (.ref a)) (ha : SqL K H a ys) (hz : ys.length ≤ 10000) : EvL (tLst (tCons (tC .non) (StX.tStar K te tNil))) σ H (.non :: ys) := fun H1 e Q q =>
  h H1 e _ fun H2 e2 => ⟨a, ys, rfl, .inr (ex_l (e.trans e2) ha), by
    show (V.non :: (ys ++ [])).length ≤ sizeLine ∧ ∀ p : Addr, H2 p = none → Q (V.ref p) (L2.upd H2 p (HO.lst (V.non :: (ys ++ []))))
    rw [List.append_nil]
    exact ⟨Nat.le_trans (by show ys.length + 1 ≤ 100000; omega) (by decide), fun l hl => q l _ (fresh_back e2 hl) (e2.trans (Ex.new hl)) upd_same⟩⟩
end
section
variable {P : Program} {w : World} {K : PySem.W.Frag} {mg : Str → Option Value} {base : Heap} {CWeb CTerms cT pT : Addr} (T : Top K mg base CWeb CTerms cT pT)
include T
theorem c_Terms_width : Met P w K mg base CX0 1 CTerms "width" (spWidth CTerms) := by
  refine T.d_Terms_width.met T.cl_Terms sc_Terms_width (fun vs H Q E h => ?_) (fun f cdv A outer s H vs Q E g hr h => ?_)
  · obtain ⟨x, dx, fs, sm, rfl, _⟩ := h
    rfl
  · obtain ⟨x, dx, fs, sm, rfl, hx, hl, hs, k⟩ := h
    refine ⟨_, (pss_one (ps_ret (pe_op op_fdivW (C8.pe_gc (by rfl) T.n_TURN_UNITS) (k_fld (K := K) rfl (pv 0) rfl)))), ?_⟩
    exact s_ret (ev_op ev_c (ev_fld (ev_var rfl) hx T.cl_Terms T.a_Terms_slots_many hl) (rv_I (divW (by omega) (by omega)))) k
theorem c_Terms_many : Met P w K mg base CX0 2 CTerms "many" (spTMany K CTerms CWeb) := by
  refine T.d_Terms_many.met T.cl_Terms sc_Terms_many (fun vs H Q E h => ?_) (fun f cdv A outer s H vs Q E g hr h => ?_)
  · obtain ⟨x, dx, w, fs, m, ps, rfl, _⟩ := h
    rfl
  · obtain ⟨x, dx, ww, fs, m, ps, rfl, hx, hl, hW, k⟩ := h
    refine ⟨_, (pss_one (ps_ret (emt0 (c_Web_many T) g hr (by decide) pass0 (k_fld (K := K) rfl (pv 0) rfl)))), ?_⟩
    have hW' := hW
    obtain ⟨hg, dxw, a1, a2, hp, h1, h2⟩ := hW'
    exact s_ret (ev_mt (ev_fld (ev_var rfl) hx T.cl_Terms T.a_Termsweb hl) hp (no_m (by decide +kernel)) ea_nil fun H1 e Q q E => ⟨ww, m, ps, rfl, hW.ex e, q⟩) k
theorem c_Terms : MakK P w K mg base CX0 7 "Terms" CTerms (spTermsInit K pT CTerms CWeb) 2 ["quiet", "drift", "jitter", "guard"] (fun vs zs => vs ++ (zs ++ [.int (0), .int (0), .int (0)])) := by
  refine T.d_Terms__init.makK T.hm_Terms T.mk_Terms sc_Terms__init (fun vs H Q E h => ?_) (fun f cdv A outer s H vs Q E g hr h => ?_)
  · obtain ⟨H0, x, dx, w, l, t, xs, rfl, _⟩ := h
    rfl
  · obtain ⟨H0, x, dx, ww, l, t, xs, rfl, ok, hW, hl, hxs, hT, t0, x0, hx, k⟩ := h
    refine ⟨_, (pss_cons (ps_if (pt_not (pt_val (pe_callB (C8.call_isC T.i_Web) (by rfl) T.n_isinstance (by decide +kernel) (pa_cons (pv 1) (pa_cons (C8.pe_gc (v := .ref CWeb) (by rfl) ⟨_, T.hm_Web, rfl⟩) pa_nil))))) (pss_one ps_never) pss_nil)
    (pss_cons (ps_fld (pv 0) (pv 1) rfl)
    (pss_cons (ps_fld (pv 0) (pe_op op_add (pe_callB (kcr (K := K) (r := rMax) (cr_max rfl) rfl) (by rfl) T.n_max (by decide +kernel) (pa_cons (emt0 (c_Web_slots T) g hr (by decide) pass0 (pv 1)) pa_nil)) pe_int) rfl)
    (pss_cons (ps_set (i := 10) sc_Terms__init.nd rfl (Or.inl rfl) (ec (c_places_of T) g hr (by decide) pass0 (by rfl) (pa_cons (pe_op op_sub (emt0 (c_Web_many T) g hr (by decide) pass0 (pv 1)) pe_int) (pa_cons (pv 2) (pa_cons (pv 4) pa_nil)))))
    (pss_cons (ps_if (pt_cmpR op_isN (pv 10) pe_non (nomark _)) (pss_one ps_never) pss_nil)
    (pss_cons (ps_fld (pv 0) (pe_lst (pa_cons pe_non (StX.pa_star (pv 10) pa_nil))) rfl)
    (pss_cons (ps_if (pt_not (pt_val (ec (c_is_within T) g hr (by decide) pass0 (by rfl) (pa_cons (pv 3) (pa_cons pe_int (pa_cons (C8.pe_gc (by rfl) T.n_MOST_QUIET) pa_nil)))))) (pss_one ps_never) pss_nil)
    (pss_cons (ps_for PassesOwn.never rfl (pi_enumT (K := K) rfl (by rfl) T.n_enumerate (pa_cons (pe_tup (pa_cons (pv 4) (pa_cons (pv 5) (pa_cons (pv 6) (pa_cons (pv 7) (pa_cons (pv 8) (pa_cons (pv 9) pa_nil))))))) pa_nil)) (k_gtup (K := K) rfl (by rfl) (pgs_cons (pg_name (i := 11) sc_Terms__init.nd rfl (Or.inl rfl)) (pgs_cons (pg_name (i := 12) sc_Terms__init.nd rfl (Or.inl rfl)) pgs_nil))) (pss_one (ps_if (pt_not (pt_val (ec (c_is_size T) g hr (by decide) pass0 (by rfl) (pa_cons (pv 12) pa_nil)))) (pss_one ps_never) pss_nil)))
    (pss_cons (ps_fld (pv 0) (ec (c_number_of T) g hr (by decide) pass0 (by rfl) (pa_cons (pv 3) pa_nil)) rfl)
    (pss_cons (ps_fld (pv 0) (ec (c_number_of T) g hr (by decide) pass0 (by rfl) (pa_cons (pv 4) pa_nil)) rfl)
    (pss_cons (ps_fld (pv 0) (ec (c_number_of T) g hr (by decide) pass0 (by rfl) (pa_cons (pv 5) pa_nil)) rfl)
    (pss_cons (ps_fld (pv 0) (ec (c_number_of T) g hr (by decide) pass0 (by rfl) (pa_cons (pv 6) pa_nil)) rfl)
    (pss_cons (ps_fld (pv 0) (ec (c_number_of T) g hr (by decide) pass0 (by rfl) (pa_cons (pv 7) pa_nil)) rfl)
    (pss_cons (ps_fld (pv 0) (ec (c_number_of T) g hr (by decide) pass0 (by rfl) (pa_cons (pv 8) pa_nil)) rfl)
    (pss_cons (ps_fld (pv 0) (ec (c_number_of T) g hr (by decide) pass0 (by rfl) (pa_cons (pv 9) pa_nil)) rfl)
    (pss_cons (ps_if (pt_cmpR op_ge (pe_op op_mul pe_int (k_fld (K := K) rfl (pv 0) rfl)) (emt0 (c_Terms_width T) g hr (by decide) pass0 (pv 0)) (nomark _)) (pss_one ps_never) pss_nil)
    (pss_one (ps_if (pt_cmpR op_gt (pe_op op_mul (emt0 (c_Terms_many T) g hr (by decide) pass0 (pv 0)) (pe_op op_add (k_fld (K := K) rfl (pv 0) rfl) (pe_op op_mul (k_fld (K := K) rfl (pv 0) rfl) (pe_op op_add (k_fld (K := K) rfl (pv 0) rfl) pe_int)))) (k_fld (K := K) rfl (pv 0) rfl) (nomark _)) (pss_one ps_never) pss_nil)))))))))))))))))), ?_⟩
    have hW' := hW
    obtain ⟨hg, dxw, a1, a2, hp, _, _⟩ := hW'
    have m10 := hg.m10
    have smb := sm_le ok.sm m10
    have nx : x ≠ pT := TbS.ne t0.1 hx fun _ z => nomatch z
    have web : ∀ {H1 : Hp}, TbS pT H0 H1 → WebAt K CWeb H1 ww t.m t.ps := fun t1 => web_kp hW (t1.kp hT)
    have wp : ∀ {H1 : Hp}, TbS pT H0 H1 → H1 ww = some (.ins CWeb dxw (webF t.m a1 a2)) := fun t1 => t1.at (TbS.ne hT hp fun _ z => nomatch z) hp
    refine q_when (b := !true) (et_not (et_B (ev_cb (ea_cons (ev_var rfl) (ea_cons ev_c ea_nil)) fun H1 e Q q => ⟨ww, dxw, _, rfl, e _ _ (wp t0), q H1 (Ex.refl _)⟩))) (fun h => nomatch h) fun _ H1 e1 => ?_
    have t1 := t0.trans (.pure t0.1 e1)
    refine q_fld (ev_var rfl) (fun _ _ => ev_var rfl) (e1 _ _ hx) T.cl_Terms T.a_Termsweb (by show 0 < 1000; decide) fun H2 e2 => ?_
    have t2 := (t1.trans (.pure t1.1 e2)).mut (o := .ins CTerms dx (putF "web" (.ref ww) [])) x0 nx
    have slen : (slotsUpto t.ps t.m).length = t.m := slots_len _ _
    obtain ⟨s0, hs0, es0⟩ := ok.sm.2
    refine q_fld (v := .int (t.sm : Int)) (ev_is (ev_op (ev_maxF (m := (s0 : Int)) (ns := (slotsUpto t.ps t.m).map fun n : Nat => (n : Int)) (by
      rw [List.map_map]
      exact el_mt (ev_var rfl) (wp t2) (no_m (by decide +kernel)) ea_nil fun H1 e Q q E => ⟨ww, t.m, t.ps, rfl, (web t2).ex e, q⟩) (by rw [List.length_map, slen]; have := hg.m2; omega) (List.mem_map.mpr ⟨s0, hs0, rfl⟩) (fun y hy => by
        obtain ⟨z, hz, rfl⟩ := List.mem_map.mp hy
        have := ok.sm.1 z hz
        omega)) ev_c rv_I0) (congrArg V.int (by omega))) (fun _ _ => ev_var rfl) upd_same T.cl_Terms T.a_Terms_slots_many (by show 1 < 1000; decide) fun H3 e3 => ?_
    have t3 := ((t2.trans (.pure t2.1 e3)).mut (o := .ins CTerms dx (putF "_slots_many" (.int (t.sm : Int)) (putF "web" (.ref ww) []))) x0 nx)
    have hxs3 := tups_tb hxs hT t3
    have hl3 := t3.at (TbS.ne hT hl fun _ z => nomatch z) hl
    have rl : (t.rs.length : Int) = (t.m : Int) - 1 := by have := ok.many; omega
    refine q_clA (ea_cons (ev_is (ev_op (ev_mt (ev_var rfl) (wp t3) (no_m (by decide +kernel)) ea_nil fun H1 e Q q E => ⟨ww, t.m, t.ps, rfl, (web t3).ex e, q⟩) ev_c rv_I0) (congrArg V.int rl.symm)) (ea_cons (ev_var rfl) (ea_cons (ev_var rfl) ea_nil))) fun H4 e4 => ⟨l, xs, t.rs, t.d, rfl, e4 _ _ hl3, hxs3.ex e4, by have := ok.many; omega, ok.rs, ok.d, tab_ex t3.1 e4, fun u ys H5 t45 u0 hu hys => ?_⟩
    have t4 := t3.trans (.pure t3.1 e4)
    have t5 := t4.trans t45
    have hx5 := t45.at nx (e4 _ _ upd_same)
    have u00 : H0 u = none := t4.free hT u0
    have nu : u ≠ x := fun z => by rw [z, e4 _ _ upd_same] at u0; cases u0
    refine q_when (b := false) (et_test (ev_op (ev_var rfl) ev_c (z := .bl false) (rv_val fun H e Q q => ⟨rfl, q⟩))) (fun h => nomatch h) fun _ H6 e6 => ?_
    have yl : ys.length = t.rs.length := by rw [hys.1, List.length_map]
    refine q_fldX (Lf.EvL.x (el_nonStar (ev_var rfl) (sq_of (e6 _ _ hu)) (by have := ok.many; omega))) fun v H7 ⟨pl, ev, pl0, e7, hpl⟩ => ⟨_, rfl, x, CTerms, dx, _, rfl, e7 _ _ (e6 _ _ hx5), T.cl_Terms, T.a_Terms_places, (by show 2 < 1000; decide), ?_⟩
    subst ev
    have t57 := t5.trans (.pure t5.1 (e6.trans e7))
    have t7 := t57.mut (o := .ins CTerms dx (putF "_places" (.ref pl) (putF "_slots_many" (.int (t.sm : Int)) (putF "web" (.ref ww) [])))) x0 nx
    have pl00 : H0 pl = none := (t5.trans (.pure t5.1 e6)).free hT pl0
    have npl : pl ≠ x := fun z => by rw [z, e6 _ _ hx5] at pl0; cases pl0
    have hpl7 := (upd_ne (o := HO.ins CTerms dx (putF "_places" (.ref pl) (putF "_slots_many" (.int (t.sm : Int)) (putF "web" (.ref ww) [])))) npl).trans hpl
    have hys7 : Tups (L2.upd H7 x (.ins CTerms dx (putF "_places" (.ref pl) (putF "_slots_many" (.int (t.sm : Int)) (putF "web" (.ref ww) []))))) ys (t.rs.map Pl.row) := ((hys.ex e6).ex e7).mut fun r z => by rw [e7 _ _ (e6 _ _ hx5)] at z; cases z
    generalize eH : L2.upd H7 x (.ins CTerms dx (putF "_places" (.ref pl) (putF "_slots_many" (.int (t.sm : Int)) (putF "web" (.ref ww) [])))) = H8 at t7 hpl7 hys7 ⊢
    have hx8 : H8 x = some (.ins CTerms dx (putF "_places" (.ref pl) (putF "_slots_many" (.int (t.sm : Int)) (putF "web" (.ref ww) [])))) := by rw [← eH]; exact upd_same
    clear eH
    refine q_when (b := !true) (et_not (et_B (ev_is (ev_cl (ea_cons (ev_var rfl) (ea_cons ev_c (ea_cons ev_c ea_nil))) (sv_within K _ _ _ _)) (congrArg V.bl (inB_in ok.q))))) (fun h => nomatch h) fun _ H9 e9 => ?_
    have size : ∀ {i : Int} {σ : L2.St} {H1 : Hp} {j : Nat}, 0 ≤ i ∧ i ≤ 1000000000 → σ[j]? = some (some (.int i)) → EvT (tNot (tB (tCl spSize E0 (tCons (tVar j) tNil)))) σ H1 false := fun {i σ H1 j} hi hj => et_is (et_not (et_B (ev_cl (ea_cons (ev_var hj) ea_nil) (fun H1 e Q q E => ⟨i, rfl, q⟩)))) (by rw [inB_in hi]; rfl)
    refine q_forET (ys := [.int t.d, .int t.j, .int t.g, .int t.li, .int t.sp, .int t.it]) (eu_tup (ea_cons (ev_var rfl) (ea_cons (ev_var rfl) (ea_cons (ev_var rfl) (ea_cons (ev_var rfl) (ea_cons (ev_var rfl) (ea_cons (ev_var rfl) ea_nil)))))) (by show 6 ≤ 100000; decide))
      (fun a i σ' H' => ∃ o11 o12, σ' = [some (.ref x), some (.ref ww), some (.ref l), some (.int t.q), some (.int t.d), some (.int t.j), some (.int t.g), some (.int t.li), some (.int t.sp), some (.int t.it), some (.ref u), o11, o12] ∧ Ex H9 H' ∧ H' a = some (.tup [.int t.d, .int t.j, .int t.g, .int t.li, .int t.sp, .int t.it]))
      (fun a H1 _ e1 ha => ⟨none, none, rfl, e1, ha⟩) (fun a i σ' H' ⟨_, _, _, _, ha⟩ => st_of ha) (fun a i σ' H' U o ⟨o1, o2, h1, h2, h3⟩ hU => ⟨o1, o2, h1, h2.trans (Ex.new hU), Ex.new hU _ _ h3⟩) ?_ ?_
    · rintro a i v σ' H' hv ⟨o1, o2, rfl, e10, ha⟩
      have hi : ∃ z : Int, v = .int z ∧ 0 ≤ z ∧ z ≤ 1000000000 := by
        match i, hv with
        | 0, hv => exact ⟨_, (Option.some.inj hv).symm, ok.d⟩
        | 1, hv => exact ⟨_, (Option.some.inj hv).symm, ok.j⟩
        | 2, hv => exact ⟨_, (Option.some.inj hv).symm, ok.g⟩
        | 3, hv => exact ⟨_, (Option.some.inj hv).symm, ok.li⟩
        | 4, hv => exact ⟨_, (Option.some.inj hv).symm, ok.sp⟩
        | 5, hv => exact ⟨_, (Option.some.inj hv).symm, ok.it⟩
        | n + 6, hv => simp at hv
      obtain ⟨z, rfl, hz⟩ := hi
      exact s_when (size hz rfl) (fun h => nomatch h) fun _ H11 e11 => ⟨_, _, rfl, e10.trans e11, e11 _ _ ha⟩
    · rintro a σ' H10 ⟨o1, o2, rfl, e10, _⟩
      have e8 := e9.trans e10
      have t10 := t7.trans (.pure t7.1 e8)
      have hx10 := e8 _ _ hx8
      have hpl10 := e8 _ _ hpl7
      have hys10 := hys7.ex e8
      clear e9 e10 e8 hx8 hpl7 hys7 t7
      have num : ∀ {i : Int} {σ : L2.St} {H1 : Hp} {j : Nat}, σ[j]? = some (some (.int i)) → Ev (tCl (spNumber K) E0 (tCons (tVar j) tNil)) σ H1 (.int i) := fun hj => ev_cl (ea_cons (ev_var hj) ea_nil) (sv_number K _ _)
      have S0 : TbS pT H0 H10 ∧ H10 x = some (.ins CTerms dx (putF "_places" (.ref pl) (putF "_slots_many" (.int (t.sm : Int)) (putF "web" (.ref ww) [])))) ∧ H10 pl = some (.lst (.non :: ys)) ∧ Tups H10 ys (t.rs.map Pl.row) := ⟨t10, hx10, hpl10, hys10⟩
      have adv : ∀ {fs : List (Str × V)} (fs' : List (Str × V)) {Ha Hb : Hp}, (TbS pT H0 Ha ∧ Ha x = some (.ins CTerms dx fs) ∧ Ha pl = some (.lst (.non :: ys)) ∧ Tups Ha ys (t.rs.map Pl.row)) → Ex Ha Hb →
          TbS pT H0 (L2.upd Hb x (.ins CTerms dx fs')) ∧ (L2.upd Hb x (.ins CTerms dx fs')) x = some (.ins CTerms dx fs') ∧ (L2.upd Hb x (.ins CTerms dx fs')) pl = some (.lst (.non :: ys)) ∧ Tups (L2.upd Hb x (.ins CTerms dx fs')) ys (t.rs.map Pl.row) := fun fs' Ha Hb ⟨b1, b2, b3, b4⟩ eb =>
        ⟨(b1.trans (.pure b1.1 eb)).mut x0 nx, upd_same, (upd_ne npl).trans (eb _ _ b3), (b4.ex eb).mut fun r z => by rw [eb _ _ b2] at z; cases z⟩
      clear t10 hx10 hpl10 hys10
      refine q_fld (num rfl) (fun _ _ => ev_var rfl) S0.2.1 T.cl_Terms T.a_Termsquiet (by show 3 < 1000; decide) fun G0 e20 => ?_
      have S1 := adv (putF "quiet" (.int t.q) (putF "_places" (.ref pl) (putF "_slots_many" (.int (t.sm : Int)) (putF "web" (.ref ww) [])))) S0 e20
      generalize L2.upd G0 x (.ins CTerms dx (putF "quiet" (.int t.q) (putF "_places" (.ref pl) (putF "_slots_many" (.int (t.sm : Int)) (putF "web" (.ref ww) []))))) = K0 at S1 ⊢
      refine q_fld (num rfl) (fun _ _ => ev_var rfl) S1.2.1 T.cl_Terms T.a_Termsdrift (by show 4 < 1000; decide) fun G1 e21 => ?_
      have S2 := adv (putF "drift" (.int t.d) (putF "quiet" (.int t.q) (putF "_places" (.ref pl) (putF "_slots_many" (.int (t.sm : Int)) (putF "web" (.ref ww) []))))) S1 e21
      generalize L2.upd G1 x (.ins CTerms dx (putF "drift" (.int t.d) (putF "quiet" (.int t.q) (putF "_places" (.ref pl) (putF "_slots_many" (.int (t.sm : Int)) (putF "web" (.ref ww) [])))))) = K1 at S2 ⊢
      refine q_fld (num rfl) (fun _ _ => ev_var rfl) S2.2.1 T.cl_Terms T.a_Termsjitter (by show 5 < 1000; decide) fun G2 e22 => ?_
      have S3 := adv (putF "jitter" (.int t.j) (putF "drift" (.int t.d) (putF "quiet" (.int t.q) (putF "_places" (.ref pl) (putF "_slots_many" (.int (t.sm : Int)) (putF "web" (.ref ww) [])))))) S2 e22
      generalize L2.upd G2 x (.ins CTerms dx (putF "jitter" (.int t.j) (putF "drift" (.int t.d) (putF "quiet" (.int t.q) (putF "_places" (.ref pl) (putF "_slots_many" (.int (t.sm : Int)) (putF "web" (.ref ww) []))))))) = K2 at S3 ⊢
      refine q_fld (num rfl) (fun _ _ => ev_var rfl) S3.2.1 T.cl_Terms T.a_Termsguard (by show 6 < 1000; decide) fun G3 e23 => ?_
      have S4 := adv (putF "guard" (.int t.g) (putF "jitter" (.int t.j) (putF "drift" (.int t.d) (putF "quiet" (.int t.q) (putF "_places" (.ref pl) (putF "_slots_many" (.int (t.sm : Int)) (putF "web" (.ref ww) []))))))) S3 e23
      generalize L2.upd G3 x (.ins CTerms dx (putF "guard" (.int t.g) (putF "jitter" (.int t.j) (putF "drift" (.int t.d) (putF "quiet" (.int t.q) (putF "_places" (.ref pl) (putF "_slots_many" (.int (t.sm : Int)) (putF "web" (.ref ww) [])))))))) = K3 at S4 ⊢
      refine q_fld (num rfl) (fun _ _ => ev_var rfl) S4.2.1 T.cl_Terms T.a_Termslisten (by show 7 < 1000; decide) fun G4 e24 => ?_
      have S5 := adv (putF "listen" (.int t.li) (putF "guard" (.int t.g) (putF "jitter" (.int t.j) (putF "drift" (.int t.d) (putF "quiet" (.int t.q) (putF "_places" (.ref pl) (putF "_slots_many" (.int (t.sm : Int)) (putF "web" (.ref ww) [])))))))) S4 e24
      generalize L2.upd G4 x (.ins CTerms dx (putF "listen" (.int t.li) (putF "guard" (.int t.g) (putF "jitter" (.int t.j) (putF "drift" (.int t.d) (putF "quiet" (.int t.q) (putF "_places" (.ref pl) (putF "_slots_many" (.int (t.sm : Int)) (putF "web" (.ref ww) []))))))))) = K4 at S5 ⊢
      refine q_fld (num rfl) (fun _ _ => ev_var rfl) S5.2.1 T.cl_Terms T.a_Termsspeak (by show 8 < 1000; decide) fun G5 e25 => ?_
      have S6 := adv (putF "speak" (.int t.sp) (putF "listen" (.int t.li) (putF "guard" (.int t.g) (putF "jitter" (.int t.j) (putF "drift" (.int t.d) (putF "quiet" (.int t.q) (putF "_places" (.ref pl) (putF "_slots_many" (.int (t.sm : Int)) (putF "web" (.ref ww) []))))))))) S5 e25
      generalize L2.upd G5 x (.ins CTerms dx (putF "speak" (.int t.sp) (putF "listen" (.int t.li) (putF "guard" (.int t.g) (putF "jitter" (.int t.j) (putF "drift" (.int t.d) (putF "quiet" (.int t.q) (putF "_places" (.ref pl) (putF "_slots_many" (.int (t.sm : Int)) (putF "web" (.ref ww) [])))))))))) = K5 at S6 ⊢
      refine q_fld (num rfl) (fun _ _ => ev_var rfl) S6.2.1 T.cl_Terms T.a_Termsitem (by show 9 < 1000; decide) fun G6 e26 => ?_
      have S7 := adv (putF "item" (.int t.it) (putF "speak" (.int t.sp) (putF "listen" (.int t.li) (putF "guard" (.int t.g) (putF "jitter" (.int t.j) (putF "drift" (.int t.d) (putF "quiet" (.int t.q) (putF "_places" (.ref pl) (putF "_slots_many" (.int (t.sm : Int)) (putF "web" (.ref ww) [])))))))))) S6 e26
      generalize L2.upd G6 x (.ins CTerms dx (putF "item" (.int t.it) (putF "speak" (.int t.sp) (putF "listen" (.int t.li) (putF "guard" (.int t.g) (putF "jitter" (.int t.j) (putF "drift" (.int t.d) (putF "quiet" (.int t.q) (putF "_places" (.ref pl) (putF "_slots_many" (.int (t.sm : Int)) (putF "web" (.ref ww) []))))))))))) = K6 at S7 ⊢
      have efs : (putF "item" (.int t.it) (putF "speak" (.int t.sp) (putF "listen" (.int t.li) (putF "guard" (.int t.g) (putF "jitter" (.int t.j) (putF "drift" (.int t.d) (putF "quiet" (.int t.q) (putF "_places" (.ref pl) (putF "_slots_many" (.int (t.sm : Int)) (putF "web" (.ref ww) [])))))))))) = t.fs ww pl := by
        simp (disch := decide +kernel) only [pf_miss, pf_nil]
        rfl
      rw [efs] at S7
      obtain ⟨t7', hx7, hpl7', hys7'⟩ := S7
      have lk : ∀ {f : Str} {v : V}, (t.fs ww pl).lookup f = some v → NoAttr K CTerms f → ∀ {σ : L2.St} {H1 : Hp}, σ[0]? = some (some (.ref x)) → Ex K6 H1 → Ev (tFld K (tVar 0) f) σ H1 v := fun {f v} hl na {σ H1} h0 e => ev_fld (ev_var h0) (e _ _ hx7) T.cl_Terms na hl
      have l_g : (t.fs ww pl).lookup ("guard" : Str) = some (V.int t.g) := by unfold Trm.fs; walk_at "lk"
      have l_j : (t.fs ww pl).lookup ("jitter" : Str) = some (V.int t.j) := by unfold Trm.fs; walk_at "lk"
      have l_d : (t.fs ww pl).lookup ("drift" : Str) = some (V.int t.d) := by unfold Trm.fs; walk_at "lk"
      have l_q : (t.fs ww pl).lookup ("quiet" : Str) = some (V.int t.q) := by unfold Trm.fs; walk_at "lk"
      have l_s : (t.fs ww pl).lookup ("_slots_many" : Str) = some (V.int (t.sm : Int)) := by unfold Trm.fs; walk_at "lk"
      have l_w : (t.fs ww pl).lookup ("web" : Str) = some (V.ref ww) := by unfold Trm.fs; walk_at "lk"
      have l_width : (t.fs ww pl).lookup ("width" : Str) = none := by unfold Trm.fs; walk_at "lk"
      have l_many : (t.fs ww pl).lookup ("many" : Str) = none := by unfold Trm.fs; walk_at "lk"
      have W7 := web t7'
      have m10i : (t.m : Int) ≤ 10 := by omega
      have okd := ok.d
      have okq := ok.q
      refine q_when (b := false) (et_is (et_test (ev_op (ev_op ev_c (lk l_g T.a_Termsguard rfl (Ex.refl _)) (rv_I (C := CMul) (.inl ⟨by decide, by decide⟩))) (ev_mt (ev_var rfl) hx7 l_width ea_nil fun H1 e Q q E => ⟨x, dx, _, t.sm, rfl, e _ _ hx7, l_s, smb, q⟩) rv_I0)) (decide_eq_false (by have := ok.tight; omega))) (fun h => nomatch h) fun _ H11 e11 => ?_
      have rm := ok.room
      refine s_when (b := false) (et_is (et_test (ev_op (ev_op (ev_mt (ev_var rfl) (e11 _ _ hx7) l_many ea_nil fun H1 e Q q E => ⟨x, dx, ww, _, t.m, t.ps, rfl, e _ _ (e11 _ _ hx7), l_w, (W7.ex e11).ex e, q⟩) (ev_op (lk l_j T.a_Termsjitter rfl e11) (ev_op (lk l_d T.a_Termsdrift rfl e11) (ev_op (lk l_q T.a_Termsquiet rfl e11) ev_c rv_I0) (rv_I (C := CMul) (.inr ⟨by omega, by omega⟩))) rv_I0) (rv_I (C := CMul) (.inl ⟨by omega, by omega⟩))) (lk l_g T.a_Termsguard rfl e11) rv_I0)) (decide_eq_false (by omega))) (fun h => nomatch h) fun _ H12 e12 => ?_
      have e712 := e11.trans e12
      exact k H12 (t7'.trans (.pure t7'.1 e712)) ⟨ok, dx, pl, ys, e712 _ _ hx7, x0, pl00, e712 _ _ hpl7', hys7'.ex e712⟩
end
end K28
end
section
set_option Elab.async false
set_option linter.all false
set_option maxRecDepth 100000
set_option maxHeartbeats 4000000
namespace K28
local macro_rules | `(tactic| walk_at "pos") => `(tactic| (show (0 : Int) < _; first | decide | omega))
open PySem PySem.Spec PyProof.Rows L2 Lf 
open Evl
local macro_rules | `(tactic| walk_at "lk") => `(tactic| (simp (disch := decide +kernel) only [lk_hit, lk_miss, lk_nil]))
local macro_rules | `(tactic| walk_at "pf") => `(tactic| (simp (disch := decide +kernel) only [pf_hit, pf_miss, pf_nil]))
open Wm
def spPairsL : Sp := fun vs H Q _ => ∃ (b : Addr × Addr) (m : Nat), vs = [.ref b.1, .int m] ∧ Bag H b ∧ (2 ≤ m ∧ m ≤ 10) ∧ ∀ (a : Addr) (ps : PS) (ws : List V) (H' : Hp), Good m ps → Step b H H' → H a = none → H' a = some (.lst ws) → PairsIn H' ws ps → Q (.ref a) H'
section
variable {P : Program} {w : World} {K : PySem.W.Frag} {mg : Str → Option Value} {base : Heap} {CWeb CTerms cT pT : Addr} (T : Top K mg base CWeb CTerms cT pT)
include T
theorem c_lw_pairs : Cal P w K mg base CX0 2 "_law_pairs" spPairsL := by
  refine T.d_lw_pairs.cal sc_lw_pairs (fun vs H Q E h => ?_) (fun f cdv A outer s H vs Q E g hr h => ?_)
  · obtain ⟨b, m, rfl, _⟩ := h
    rfl
  · obtain ⟨b, m, rfl, hb, hm, k⟩ := h
    refine ⟨_, (pss_cons (ps_set (i := 2) sc_lw_pairs.nd rfl (Or.inl rfl) (ec (c_lw_take T) g hr (by decide) pass0 (by rfl) (pa_cons (pv 0) (pa_cons pe_int pa_nil))))
    (pss_cons (ps_set (i := 3) sc_lw_pairs.nd rfl (Or.inl rfl) (pe_lst pa_nil))
    (pss_cons (ps_for PassesOwn.never rfl (pi_range1 (by rfl) T.n_range (pa_cons (pv 1) pa_nil)) (pg_name (i := 4) sc_lw_pairs.nd rfl (Or.inl rfl)) (pss_one (ps_for PassesOwn.never rfl (pi_range2 (by rfl) T.n_range (pa_cons (pe_op op_add (pv 4) pe_int) (pa_cons (pv 1) pa_nil))) (pg_name (i := 5) sc_lw_pairs.nd rfl (Or.inl rfl)) (pss_one (ps_if (pt_val (pe_ix (kix (K := K) (r := rIxL) ix_list rfl) (pe_lst (pa_cons (pe_cmpR op_eq (pv 5) (pe_op op_add (pv 4) pe_int) (nomark _)) (pa_cons (pe_cmpR op_eq (pv 4) pe_int (nomark _)) (pa_cons pe_bl (pa_cons (pe_cmpR op_eq (ec (c_lw_take T) g hr (by decide) pass0 (by rfl) (pa_cons (pv 0) (pa_cons pe_int pa_nil))) pe_int (nomark _)) (pa_cons (pe_cmpR op_eq (ec (c_lw_take T) g hr (by decide) pass0 (by rfl) (pa_cons (pv 0) (pa_cons pe_int pa_nil))) pe_int (nomark _)) pa_nil)))))) (pv 2) (fun _ _ => rfl))) (pss_one (ps_expr (k_bm (K := K) rfl PySem.F.plainAttrs_list PySem.F.slot_list_append PySem.F.type_list_append mt_append (pv 3) (pa_cons (pe_tup (pa_cons (pv 4) (pa_cons (pv 5) pa_nil))) pa_nil)))) pss_nil)))))
    (pss_one (ps_ret (pv 3)))))), ?_⟩
    refine q_dri (p := fun x => 0 ≤ x ∧ x < 5) hb (dri_tk rfl (by decide) (by decide)) fun way H1 s1 hway => ?_
    refine q_asgL (xs := []) (el_lst ea_nil (Nat.zero_le _)) fun l H4 l0' e4 hl => ?_
    have t4 : Step b H H4 := s1.trans (.pure s1.1 e4)
    have l0 : H l = none := s1.free l0'
    have nl : l ≠ b.1 := hb.ne l0
    refine q_forR1 (n := (m : Int)) (ea_cons (ev_var rfl) ea_nil) ⟨by omega, by omega⟩ (fun i σ' H' => ∃ o4 o5 ws ps, σ' = [some (.ref b.1), some (.int (m : Int)), some (.int way), some (.ref l), o4, o5] ∧ Step b H H' ∧ H' l = some (.lst ws) ∧ PairsIn H' ws ps ∧ ps.Pairwise lt2 ∧ (∀ p ∈ ps, p.1 < p.2 ∧ p.2 < m ∧ p.1 < i) ∧ ps.length ≤ 10 * i)
      (fun H5 e5 => ⟨none, none, [], [], rfl, t4.trans (.pure t4.1 e5), e5 _ _ hl, PairsIn.nil _, .nil, (fun p hp => by cases hp), Nat.le_refl _⟩) ?_ ?_
    · rintro i σ' H' hi ⟨o4, o5, ws, ps, rfl, t5, hw, hp, pw, hlt, hlen⟩
      have him : i < m := by omega
      refine s_forR2 (lo := (i : Int) + 1) (n := (m : Int)) (ea_cons (ev_op (ev_var rfl) ev_c rv_I0) (ea_cons (ev_var rfl) ea_nil)) ⟨by omega, by omega, by omega, by omega⟩ (fun k σ' H' => ∃ o5 ws ps, σ' = [some (.ref b.1), some (.int (m : Int)), some (.int way), some (.ref l), some (.int (i : Int)), o5] ∧ Step b H H' ∧ H' l = some (.lst ws) ∧ PairsIn H' ws ps ∧ ps.Pairwise lt2 ∧ (∀ p ∈ ps, p.1 < p.2 ∧ p.2 < m ∧ (p.1 < i ∨ (p.1 = i ∧ p.2 < i + 1 + k))) ∧ ps.length ≤ 10 * i + k)
        (fun H5 e5 => ⟨o5, ws, ps, rfl, t5.trans (.pure t5.1 e5), e5 _ _ hw, hp.ex e5, pw, fun p hp => ⟨(hlt p hp).1, (hlt p hp).2.1, .inl (hlt p hp).2.2⟩, by omega⟩) ?_ ?_
      · rintro k σ' H' hk ⟨o5, ws, ps, rfl, t6, hw, hp, pw, hlt, hlen⟩
        have ej : (i : Int) + 1 + (k : Int) = ((i + 1 + k : Nat) : Int) := by omega
        rw [ej]
        have hjm : i + 1 + k < m := by omega
        generalize hj : i + 1 + k = j at *
        refine s_any (b := b) (tany_dr t6.1 (dr_pick (n := 5) (dra_cons (dr_ev (fun H1 => ev_op (ev_var rfl) (ev_op (ev_var rfl) ev_c rv_I0) (rv_eq rfl)) ⟨_, rfl⟩) (dra_cons (dr_ev (fun H1 => ev_op (ev_var rfl) ev_c (rv_eq rfl)) ⟨_, rfl⟩) (dra_cons (dr_ev (fun H1 => ev_c) ⟨_, rfl⟩) (dra_cons (dr_eqI (dri_tk rfl (by decide) (by decide))) (dra_cons (dr_eqI (dri_tk rfl (by decide) (by decide))) (dra_nil rfl)))))) (dri_var rfl hway) (by decide))) fun H10 s10 => ?_
        have t10 := t6.trans s10
        have hw10 := s10.at nl hw
        have hp10 := hp.step t6.1 s10
        have hws : ws.length = ps.length := hp.1
        constructor
        · refine ⟨_, rfl, .inl ⟨rfl, _, sq_of hw10⟩, _, rfl, _, rfl, (by show 2 ≤ sizeLine; decide), fun q hq => ?_⟩
          have nlq : l ≠ q := ne_of_none hw10 hq
          have hwq : (upd H10 q (.tup [.int (i : Int), .int (j : Int)])) l = some (.lst ws) := by rw [upd_ne nlq]; exact hw10
          refine ⟨l, ws, .ref q, rfl, rfl, hwq, sz_lt (by omega), ?_⟩
          refine ⟨_, _, ps ++ [(i, j)], rfl, (t10.trans (.pure t10.1 (Ex.new hq))).put hb l0, upd_same, ((hp10.ex (Ex.new hq)).snoc (p := (i, j)) upd_same).upd hwq, ?_, ?_, ?_⟩
          · rw [List.pairwise_append]
            refine ⟨pw, List.pairwise_singleton .., fun p hpm x hx => ?_⟩
            rw [List.mem_singleton.mp hx]
            rcases (hlt p hpm).2.2 with z | ⟨z1, z2⟩
            · exact .inl z
            · exact .inr ⟨z1, z2⟩
          · intro p hpm
            rcases List.mem_append.mp hpm with z | z
            · obtain ⟨z1, z2, z3⟩ := hlt p z
              exact ⟨z1, z2, z3.imp id fun ⟨w1, w2⟩ => ⟨w1, by omega⟩⟩
            · rw [List.mem_singleton.mp z]
              exact ⟨by show i < j; omega, hjm, .inr ⟨rfl, by show j < _; omega⟩⟩
          · rw [List.length_append, List.length_singleton]
            omega
        · exact ⟨_, ws, ps, rfl, t10, hw10, hp10, pw, fun p hpm => ⟨(hlt p hpm).1, (hlt p hpm).2.1, (hlt p hpm).2.2.imp id fun ⟨w1, w2⟩ => ⟨w1, by omega⟩⟩, by omega⟩
      · rintro σ' H' ⟨o5, ws, ps, rfl, t6, hw, hp, pw, hlt, hlen⟩
        exact ⟨_, _, ws, ps, rfl, t6, hw, hp, pw, fun p hpm => ⟨(hlt p hpm).1, (hlt p hpm).2.1, by have := (hlt p hpm).2.2; omega⟩, by omega⟩
    · rintro σ' H' ⟨o4, o5, ws, ps, rfl, t5, hw, hp, pw, hlt, hlen⟩
      rw [Int.toNat_natCast] at hlt hlen
      exact s_ret (ev_var rfl) fun H6 e6 => k l ps ws H6 ⟨hm.1, hm.2, fun p hpm => ⟨(hlt p hpm).1, (hlt p hpm).2.1⟩, pw, by omega⟩ (t5.trans (.pure t5.1 e6)) l0 (e6 _ _ hw) (hp.ex e6)
end
end K28
end
section
set_option Elab.async false
set_option linter.all false
set_option maxRecDepth 100000
set_option maxHeartbeats 4000000
namespace K28
local macro_rules | `(tactic| walk_at "pos") => `(tactic| (show (0 : Int) < _; first | decide | omega))
open PySem PySem.Spec PyProof.Rows L2 Lf 
open Evl
local macro_rules | `(tactic| walk_at "lk") => `(tactic| (simp (disch := decide +kernel) only [lk_hit, lk_miss, lk_nil]))
local macro_rules | `(tactic| walk_at "pf") => `(tactic| (simp (disch := decide +kernel) only [pf_hit, pf_miss, pf_nil]))
open Wm
def srtN (l : List Nat) : List Nat := l.mergeSort fun a b => decide (a ≤ b)
theorem srtN_perm (l : List Nat) : (srtN l).Perm l := List.mergeSort_perm _ _
theorem srtN_pair (l : List Nat) : (srtN l).Pairwise (· ≤ ·) := by
  have h := List.pairwise_mergeSort (le := fun a b : Nat => decide (a ≤ b)) (by intro a b c h1 h2; have := of_decide_eq_true h1; have := of_decide_eq_true h2; exact decide_eq_true (by omega)) (by intro a b; by_cases q : a ≤ b; simp [q]; simp [q]; omega) l
  exact h.imp fun h => of_decide_eq_true h
theorem srtN_eq {l : List Nat} {ys : List Int} (hp : ys.Perm (l.map fun n : Nat => (n : Int))) (hs : ys.Pairwise (· ≤ ·)) : ys = (srtN l).map fun n : Nat => (n : Int) :=
  (hp.trans ((srtN_perm l).symm.map _)).eq_of_pairwise (fun a b _ _ h1 h2 => Int.le_antisymm h1 h2) hs (List.pairwise_map.mpr ((srtN_pair l).imp fun h => by omega))
def nearL (ps : PS) (i : Nat) : List Nat := srtN (((ps.filter fun p => decide (p.1 = i)).map fun p => p.2) ++ ((ps.filter fun p => decide (p.2 = i)).map fun p => p.1))
theorem mem_nearL {m : Nat} {ps : PS} (g : Good m ps) {i x : Nat} : x ∈ nearL ps i ↔ x ∈ rowOf ps i := by
  unfold nearL
  rw [(srtN_perm _).mem_iff, List.mem_append, mem_row]
  constructor
  · rintro (h | h)
    · obtain ⟨p, hp, rfl⟩ := List.mem_map.mp h
      obtain ⟨h1, h2⟩ := List.mem_filter.mp hp
      exact ⟨p, h1, .inl ⟨of_decide_eq_true h2, rfl⟩⟩
    · obtain ⟨p, hp, rfl⟩ := List.mem_map.mp h
      obtain ⟨h1, h2⟩ := List.mem_filter.mp hp
      have e := of_decide_eq_true h2
      have := (g.lt p h1).1
      exact ⟨p, h1, .inr ⟨by omega, e, rfl⟩⟩
  · rintro ⟨p, hp, ⟨e1, e2⟩ | ⟨e1, e2, e3⟩⟩
    · exact .inl (List.mem_map.mpr ⟨p, List.mem_filter.mpr ⟨hp, decide_eq_true e1⟩, e2.symm⟩)
    · exact .inr (List.mem_map.mpr ⟨p, List.mem_filter.mpr ⟨hp, decide_eq_true e2⟩, e3.symm⟩)
theorem nearL_len {m : Nat} {ps : PS} (g : Good m ps) (i : Nat) : (nearL ps i).length ≤ 2000 := by
  unfold nearL
  rw [(srtN_perm _).length_eq, List.length_append, List.length_map, List.length_map]
  have h1 := List.length_filter_le (fun p : Nat × Nat => decide (p.1 = i)) ps
  have h2 := List.length_filter_le (fun p : Nat × Nat => decide (p.2 = i)) ps
  have := g.few
  omega
def clashL (ps : PS) (i j : Nat) : Bool := decide (j ∈ nearL ps i) || (nearL ps i).any fun x => decide (x ∈ nearL ps j)
theorem clashL_eq {m : Nat} {ps : PS} (g : Good m ps) {i j : Nat} (n : i ≠ j) : clashL ps i j = clash ps i j := by
  have e : decide (i = j) = false := decide_eq_false n
  unfold clashL clash adj touch
  rw [e, decide_eq_decide.mpr (mem_nearL g)]
  show (_ || _) = (!false && (_ || _))
  rw [Bool.not_false, Bool.true_and]
  congr 1
  rw [Bool.eq_iff_iff, List.any_eq_true, List.any_eq_true]
  constructor
  · rintro ⟨x, h1, h2⟩
    exact ⟨x, (mem_nearL g).mp h1, decide_eq_true ((mem_nearL g).mp (of_decide_eq_true h2))⟩
  · rintro ⟨x, h1, h2⟩
    exact ⟨x, (mem_nearL g).mpr h1, decide_eq_true ((mem_nearL g).mpr (of_decide_eq_true h2))⟩
def z2 (p : Nat × Nat) : List V := [.int (p.1 : Int), .int (p.2 : Int)]
theorem pairs_tups {H : Hp} {ws : List V} {ps : PS} (h : PairsIn H ws ps) : Tups H ws (ps.map z2) := ⟨by rw [h.1, List.length_map], fun i r hr => by
  rw [List.getElem?_map] at hr
  cases e : ps[i]? with
  | none => rw [e] at hr; cases hr
  | some p =>
    rw [e] at hr
    cases hr
    exact h.2 i p e⟩
theorem givenZ {α : Type} (g : α → V) (p : α → Bool) (d : α) (l : List α) : given l.length (fun i => p (l.getD i d)) (fun i => g (l.getD i d)) = (l.filter p).map g := by
  unfold given
  have e : l = (List.range l.length).map fun i => l.getD i d := by
    refine List.ext_getElem (by simp) fun i h1 h2 => ?_
    simp [List.getD_eq_getElem?_getD, List.getElem?_eq_getElem h1]
  conv => rhs; rw [e]
  rw [List.filter_map, List.map_map]
  rfl
section
variable {K : PySem.W.Frag}
/-- [e for a, b in pairs if t] -/
theorem el_lcZ {σ : L2.St} {H : Hp} {l : Addr} {xs : List V} {rs : PS} {tl te : TE} {tt : TT} {j1 j2 : Nat} {vs : List Nat} (f : Nat × Nat → Bool) (g : Nat × Nat → Nat) (hl : Ev tl σ H (.ref l)) (hx : H l = some (.lst xs)) (ht : PairsIn H xs rs) (hN : rs.length ≤ 40000)
    (hw : ∀ x y, wipe (((wipe σ vs).set j1 (some x)).set j2 (some y)) vs = wipe σ vs)
    (h1 : ∀ r H1, Ex H H1 → r ∈ rs → EvT tt (((wipe σ vs).set j1 (some (.int (r.1 : Int)))).set j2 (some (.int (r.2 : Int)))) H1 (f r))
    (h2 : ∀ r H1, Ex H H1 → r ∈ rs → f r = true → Ev te (((wipe σ vs).set j1 (some (.int (r.1 : Int)))).set j2 (some (.int (r.2 : Int)))) H1 (.int (g r : Int))) :
    EvL (tLc (iList K tl) (gTup K 2 (gCons (gName j1) (gCons (gName j2) gNil))) tt te vs) σ H (vN ((rs.filter f).map g)) := fun H1 e Q k => by
  refine hl H1 e _ fun H2 e2 => ?_
  have e12 := e.trans e2
  have hx2 := e12 _ _ hx
  have ht2 := ht.ex e12
  have hlen : xs.length = rs.length := ht.1
  have key := givenZ (fun r : Nat × Nat => V.int (g r : Int)) f (0, 0) rs
  refine ⟨l, rfl, ⟨_, sq_of hx2⟩, fun D hD => lc_list (xs := xs) (Cw H2 (fun i => f (rs.getD i (0, 0))) (fun i => V.int (g (rs.getD i (0, 0)) : Int)) D) ⟨hD, Ex.new hD, upd_same⟩ (fun i H' _ p => sq_of (p.2.1 _ _ hx2)) (fun i x H' hx p => ?_) (fun H' p => ?_)⟩
  · have hi : i < rs.length := by rw [← hlen]; exact (List.getElem?_eq_some_iff.mp hx).1
    have er : rs[i]? = some (rs.getD i (0, 0)) := by rw [List.getD_eq_getElem?_getD, List.getElem?_eq_getElem hi]; rfl
    have hm := List.mem_of_getElem? er
    obtain ⟨u, hu1, hu⟩ := ht2.2 i _ er
    rw [hx] at hu1
    cases hu1
    refine ⟨u, _, rfl, st_of (p.2.1 _ _ hu), rfl, _, _, rfl, _, _, rfl, rfl, hw _ _, ?_⟩
    exact cw_turn p (by omega) (h1 _ H2 e12 hm) fun hf => h2 _ H2 e12 hm hf
  · rw [hlen] at p
    refine k D H' (fresh_back e2 p.1) (e2.trans p.2.1) ?_
    rw [p.2.2, key]
    unfold vN
    rw [List.map_map]
    rfl
theorem el_srtN {σ : L2.St} {H : Hp} {te : TE} {l : List Nat} (h : EvL te σ H (vN l)) : EvL (tCB (rSortedI K) (tCons te tNil)) σ H (vN (srtN l)) := fun H1 e1 Q q =>
  h H1 e1 _ fun y H2 y0 e2 hy => ⟨y, l.map fun n : Nat => (n : Int), rfl, sq_of (by rw [hy]; unfold vN; rw [List.map_map]; rfl), fun ys p hpm hs p0 => by
    have e : ys.map V.int = vN (srtN l) := by
      rw [srtN_eq hpm hs]
      unfold vN
      rw [List.map_map]
      rfl
    rw [e]
    exact q p _ (fresh_back e2 p0) (e2.trans (Ex.new p0)) upd_same⟩
end
def spNearL : Sp := fun vs H Q _ => ∃ (l : Addr) (ws : List V) (m : Nat) (ps : PS) (i : Nat), vs = [.ref l, .int i] ∧ H l = some (.lst ws) ∧ PairsIn H ws ps ∧ Good m ps ∧ RetL (vN (nearL ps i)) H Q
def spClashL : Sp := fun vs H Q _ => ∃ (l : Addr) (ws : List V) (m : Nat) (ps : PS) (i j : Nat), vs = [.ref l, .int i, .int j] ∧ H l = some (.lst ws) ∧ PairsIn H ws ps ∧ Good m ps ∧ RetV (.bl (clashL ps i j)) H Q
def spSlotsL : Sp := fun vs H Q _ => ∃ (l : Addr) (ws : List V) (m : Nat) (ps : PS), vs = [.ref l, .int m] ∧ H l = some (.lst ws) ∧ PairsIn H ws ps ∧ Good m ps ∧ RetL (vN (slotsUpto ps m)) H Q
section
variable {P : Program} {w : World} {K : PySem.W.Frag} {mg : Str → Option Value} {base : Heap} {CWeb CTerms cT pT : Addr} (T : Top K mg base CWeb CTerms cT pT)
include T
theorem c_lw_near : Cal P w K mg base CX0 1 "_law_near" spNearL := by
  refine T.d_lw_near.cal sc_lw_near (fun vs H Q E h => ?_) (fun f cdv A outer s H vs Q E g hr h => ?_)
  · obtain ⟨l, ws, m, ps, i, rfl, _⟩ := h
    rfl
  · obtain ⟨l, ws, m, ps, i, rfl, hl, hp, hg, k⟩ := h
    refine ⟨_, (pss_one (ps_ret (pe_callB (kcr (K := K) (r := rSortedI) cr_sortedI rfl) (by rfl) T.n_sorted (by decide +kernel) (pa_cons (pe_op op_cat (pe_lc (own := [("_law_a", 2), ("_law_b", 3)]) (g := (gTup K 2 (gCons (gName 2) (gCons (gName 3) gNil)))) (by rfl) sc_lw_near.nd (k_list (K := K) rfl (pv 0)) (blkOk_by (own := [("_law_a", 2), ("_law_b", 3)]) (N := ns_lw_near) (sc := defScope s_lw_near) (by decide +kernel)) (fun _ _ _ _ _ => (k_gtup (K := K) rfl (by rfl) (pgs_cons (pg_name (i := 2) sc_lw_near.nd rfl (Or.inl rfl)) (pgs_cons (pg_name (i := 3) sc_lw_near.nd rfl (Or.inl rfl)) pgs_nil)))) (fun _ _ _ _ _ => pts_one (pt_cmpR op_eq (pv 2) (pv 1) (nomark _))) (fun _ _ _ _ _ => (pv 3))) (pe_lc (own := [("_law_a", 2), ("_law_b", 3)]) (g := (gTup K 2 (gCons (gName 2) (gCons (gName 3) gNil)))) (by rfl) sc_lw_near.nd (k_list (K := K) rfl (pv 0)) (blkOk_by (own := [("_law_a", 2), ("_law_b", 3)]) (N := ns_lw_near) (sc := defScope s_lw_near) (by decide +kernel)) (fun _ _ _ _ _ => (k_gtup (K := K) rfl (by rfl) (pgs_cons (pg_name (i := 2) sc_lw_near.nd rfl (Or.inl rfl)) (pgs_cons (pg_name (i := 3) sc_lw_near.nd rfl (Or.inl rfl)) pgs_nil)))) (fun _ _ _ _ _ => pts_one (pt_cmpR op_eq (pv 3) (pv 1) (nomark _))) (fun _ _ _ _ _ => (pv 2)))) pa_nil)))), ?_⟩
    have few := hg.few
    have eqs : ∀ {x y : Nat}, decide (V.int (x : Int) = V.int (y : Int)) = decide (x = y) := fun {x y} => decide_eq_decide.mpr ⟨fun h => by have := V.int.inj h; omega, fun h => by rw [h]⟩
    have hz : ((ps.filter fun p => decide (p.1 = i)).length) + ((ps.filter fun p => decide (p.2 = i)).length) ≤ 2000 := by
      have h1 := List.length_filter_le (fun p : Nat × Nat => decide (p.1 = i)) ps
      have h2 := List.length_filter_le (fun p : Nat × Nat => decide (p.2 = i)) ps
      omega
    refine s_retL (el_srtN (l := ((ps.filter fun p => decide (p.1 = i)).map fun p => p.2) ++ ((ps.filter fun p => decide (p.2 = i)).map fun p => p.1)) ?_) k
    rw [← vN_app]
    refine el_cat (el_lcZ (fun p => decide (p.1 = i)) (fun p => p.2) (ev_var rfl) hl hp (by omega) (fun _ _ => rfl) (fun r H1 e1 _ => et_test (ev_is (ev_op (ev_var rfl) (ev_var rfl) (rv_eq rfl)) (congrArg V.bl eqs))) (fun r H1 e1 _ _ => ev_var rfl)) (el_lcZ (fun p => decide (p.2 = i)) (fun p => p.1) (ev_var rfl) hl hp (by omega) (fun _ _ => rfl) (fun r H1 e1 _ => et_test (ev_is (ev_op (ev_var rfl) (ev_var rfl) (rv_eq rfl)) (congrArg V.bl eqs))) (fun r H1 e1 _ _ => ev_var rfl)) ?_
    rw [vN_len, vN_len, List.length_map, List.length_map]
    exact Nat.le_trans hz (by decide)
theorem c_lw_clash : Cal P w K mg base CX0 2 "_law_clash" spClashL := by
  refine T.d_lw_clash.cal sc_lw_clash (fun vs H Q E h => ?_) (fun f cdv A outer s H vs Q E g hr h => ?_)
  · obtain ⟨l, ws, m, ps, i, j, rfl, _⟩ := h
    rfl
  · obtain ⟨l, ws, m, ps, i, j, rfl, hl, hp, hg, k⟩ := h
    refine ⟨_, (pss_cons (ps_set (i := 3) sc_lw_clash.nd rfl (Or.inl rfl) (ec (c_lw_near T) g hr (by decide) pass0 (by rfl) (pa_cons (pv 0) (pa_cons (pv 1) pa_nil))))
    (pss_one (ps_ret (pe_or (pe_cmpR (kop (K := K) (r := fun K => rIn K false) op_in_seq rfl) (pv 2) (pv 3) rfl) (pe_one (pe_callB (kcr (K := K) (r := rAny) (cr_any rfl) rfl) (by rfl) T.n_any (by decide +kernel) (pa_cons (pe_lc (own := [("_law_third", 4)]) (g := (gName 4)) (tt := tYes) (by rfl) sc_lw_clash.nd (k_list (K := K) rfl (pv 3)) (blkOk_by (own := [("_law_third", 4)]) (N := ns_lw_clash) (sc := defScope s_lw_clash) (by decide +kernel)) (fun _ _ _ _ _ => (pg_name (i := 4) sc_lw_clash.nd rfl (Or.inl rfl))) (fun _ _ _ _ _ => pts_nil) (fun _ _ _ _ _ => (pe_cmpR (kop (K := K) (r := fun K => rIn K false) op_in_seq rfl) (pv 4) (ec (c_lw_near T) g hr (by decide) pass0 (by rfl) (pa_cons (pv 0) (pa_cons (pv 2) pa_nil))) rfl))) pa_nil))))))), ?_⟩
    have near : ∀ {σ : L2.St} {H1 : Hp} {a c n : Nat}, Ex H H1 → σ[a]? = some (some (.ref l)) → σ[c]? = some (some (.int (n : Int))) → EvL (tCl spNearL E0 (tCons (tVar a) (tCons (tVar c) tNil))) σ H1 (vN (nearL ps n)) := fun {σ H1 a c n} e ha hc => el_cl (ea_cons (ev_var ha) (ea_cons (ev_var hc) ea_nil)) (fun H2 e2 Q q E => ⟨l, ws, m, ps, n, rfl, (e.trans e2) _ _ hl, hp.ex (e.trans e2), hg, q⟩)
    refine q_asgL (near (Ex.refl _) rfl rfl) fun nl H1 _ e1 hnl => ?_
    have few := nearL_len hg i
    refine s_ret (v := .bl (clashL ps i j)) (ev_orV (ev_is (ev_op (ev_var rfl) (ev_var rfl) (rv_isL (sq_of hnl) rfl (vN_flat _))) (congrArg V.bl (inV_nat j (nearL ps i)))) (fun _ => ev_is (ev_any (bs := (List.range (vN (nearL ps i)).length).map fun n => decide ((nearL ps i).getD n 0 ∈ nearL ps j)) ?_) ?_)) fun H2 e2 => k _ (e1.trans e2)
    · rw [← bl_map]
      refine el_map _ (ev_var rfl) (sq_of hnl) (by rw [vN_len]; omega) (fun _ => rfl) fun n x H2 e2 hn => ?_
      obtain ⟨z, rfl, hz⟩ := vN_at hn
      refine ev_is (ev_opL (ev_var rfl) (near (e1.trans e2) rfl rfl) fun p H3 hp3 e3 => rv_isL (sq_of hp3) rfl (vN_flat _)) ?_
      rw [inV_nat, List.getD_eq_getElem?_getD, hz]
      rfl
    · refine congrArg V.bl (Eq.symm ?_)
      rw [vN_len, List.any_map, any_getD]
      rfl
theorem c_lw_slots : Cal P w K mg base CX0 3 "_law_slots" spSlotsL := by
  refine T.d_lw_slots.cal sc_lw_slots (fun vs H Q E h => ?_) (fun f cdv A outer s H vs Q E g hr h => ?_)
  · obtain ⟨l, ws, m, ps, rfl, _⟩ := h
    rfl
  · obtain ⟨l, ws, m, ps, rfl, hl, hp, hg, k⟩ := h
    refine ⟨_, (pss_cons (ps_set (i := 2) sc_lw_slots.nd rfl (Or.inr rfl) (pe_lst pa_nil))
    (pss_cons (ps_for PassesOwn.never rfl (pi_range1 (by rfl) T.n_range (pa_cons (pv 1) pa_nil)) (pg_name (i := 3) sc_lw_slots.nd rfl (Or.inr rfl)) (pss_cons (ps_set (i := 4) sc_lw_slots.nd rfl (Or.inr rfl) (pe_lc (own := [("_law_one", 5)]) (g := (gName 5)) (by rfl) sc_lw_slots.nd (pi_range1 (by rfl) T.n_range (pa_cons (pv 3) pa_nil)) (blkOk_by (own := [("_law_one", 5)]) (N := ns_lw_slots) (sc := defScope s_lw_slots) (by decide +kernel)) (fun _ _ _ _ _ => (pg_name (i := 5) sc_lw_slots.nd rfl (Or.inl rfl))) (fun _ _ _ _ _ => pts_one (pt_val (ec (c_lw_clash T) g hr (by decide) pass0 (by rfl) (pa_cons (pv 0) (pa_cons (pv 5) (pa_cons (pv 3) pa_nil)))))) (fun _ _ _ _ _ => (pe_ix (kix (K := K) (r := rIxL) ix_list rfl) (pv 2) (pv 5) (fun _ _ => rfl)))))
        (pss_one (ps_expr (k_bm (K := K) rfl PySem.F.plainAttrs_list PySem.F.slot_list_append PySem.F.type_list_append mt_append (pv 2) (pa_cons (pe_ix (kix (K := K) (r := rIxL) ix_list rfl) (pe_lc (own := [("_law_slot", 6)]) (g := (gName 6)) (by rfl) sc_lw_slots.nd (pi_range1 (by rfl) T.n_range (pa_cons (pv 1) pa_nil)) (blkOk_by (own := [("_law_slot", 6)]) (N := ns_lw_slots) (sc := defScope s_lw_slots) (by decide +kernel)) (fun _ _ _ _ _ => (pg_name (i := 6) sc_lw_slots.nd rfl (Or.inl rfl))) (fun _ _ _ _ _ => pts_one (pt_cmpR (kop (K := K) (r := fun K => rIn K true) op_notIn_seq rfl) (pv 6) (pv 4) rfl)) (fun _ _ _ _ _ => (pv 6))) pe_int (fun _ _ => rfl)) pa_nil))))))
    (pss_one (ps_ret (pv 2))))), ?_⟩
    have m10 := hg.m10
    refine q_asgL (el_lst ea_nil (Nat.zero_le _)) fun fl H1 l0 e1 hfl => ?_
    refine q_forR1 (n := (m : Int)) (ea_cons (ev_var rfl) ea_nil) ⟨by omega, by omega⟩ (fun i σ' H' => ∃ o3 o4, σ' = [some (.ref l), some (.int (m : Int)), some (.ref fl), o3, o4, none, none] ∧ Ex H H' ∧ H' fl = some (.lst (vN (slotsUpto ps i)))) (fun H2 e2 => ⟨none, none, rfl, e1.trans e2, e2 _ _ hfl⟩) ?_ ?_
    · rintro i σ' H' hi ⟨o3, o4, rfl, e2, hl2⟩
      have him : i < m := by omega
      have hlen : (slotsUpto ps i).length = i := slots_len ps i
      have bl : (((List.range i).filter fun l => clash ps l i).map fun l => (slotsUpto ps i).getD l 0).length ≤ i := by
        rw [List.length_map]
        refine Nat.le_trans (List.length_filter_le _ _) ?_
        rw [List.length_range]
        exact Nat.le_refl _
      refine q_asgL (xs := vN (((List.range i).filter fun l => clash ps l i).map fun l => (slotsUpto ps i).getD l 0)) ?_ fun b H3 b0 e3 hb => ?_
      · have lc := el_lcR1 (ta := tCons (tVar 3) tNil) (σ := [some (V.ref l), some (.int (m : Int)), some (.ref fl), some (.int (i : Int)), o4, none, none]) (H := H') (j := 5) (vs := [5]) (n := (i : Int)) (t := tB (tCl spClashL E0 (tCons (tVar 0) (tCons (tVar 5) (tCons (tVar 3) tNil))))) (te := tOp (rIxL K) (tVar 2) (tVar 5)) (fun j => clash ps j i) (fun j => V.int (((slotsUpto ps i).getD j 0 : Nat) : Int)) (ea_cons (ev_var rfl) ea_nil) ⟨by omega, by omega⟩ (fun _ => rfl)
          (fun j H4 e4 hj => et_B (ev_is (ev_cl (ea_cons (ev_var rfl) (ea_cons (ev_var rfl) (ea_cons (ev_var rfl) ea_nil))) (fun H5 e5 Q q E => ⟨l, ws, m, ps, j, i, rfl, ((e2.trans e4).trans e5) _ _ hl, hp.ex ((e2.trans e4).trans e5), hg, q⟩)) (congrArg V.bl (clashL_eq hg (by omega)))))
          (fun j H4 e4 hj _ => ev_op (ev_var rfl) (ev_var rfl) (rv_ixL (sq_of (e4 _ _ hl2)) (atI_nat (by
            have hj2 : j < (slotsUpto ps i).length := by omega
            refine vN_get ?_
            rw [List.getD_eq_getElem?_getD, List.getElem?_eq_getElem hj2]
            rfl))))
        have ev : given (i : Int).toNat (fun j => clash ps j i) (fun j => V.int (((slotsUpto ps i).getD j 0 : Nat) : Int)) = vN (((List.range i).filter fun l => clash ps l i).map fun l => (slotsUpto ps i).getD l 0) := by
          unfold given vN
          rw [List.map_map, Int.toNat_natCast]
          rfl
        rw [ev] at lc
        exact lc
      · have hl3 := e3 _ _ hl2
        generalize hB : (((List.range i).filter fun l => clash ps l i).map fun l => (slotsUpto ps i).getD l 0) = B at *
        have lb : least B < m := Nat.lt_of_le_of_lt (least_le _) (by omega)
        have ix : Ev (tOp (rIxL K) (tLc (iRng1 (tCons (tVar 1) tNil)) (gName 6) (tTest (tOp (rIn K true) (tVar 6) (tVar 4))) (tVar 6) [6]) (tC (.int 0))) [some (V.ref l), some (.int (m : Int)), some (.ref fl), some (.int (i : Int)), some (.ref b), none, none] H3 (.int (least B : Nat)) := by
          refine ev_opL1 (xs := vN ((List.range m).filter fun n => !decide (n ∈ B))) ?_ (fun H1 _ => ev_c) (fun p H4 hp4 _ => rv_ixL (sq_of hp4) (atI_nat (j := 0) (vN_get (first_free lb))))
          exact el_lcR1 (n := (m : Int)) (fun n => !decide (n ∈ B)) (fun n => V.int (n : Int)) (ea_cons (ev_var rfl) ea_nil) ⟨by omega, by omega⟩ (fun _ => rfl) (fun n H4 e4 _ => et_test (ev_is (ev_op (ev_var rfl) (ev_var rfl) (rv_niL (sq_of (e4 _ _ hb)) rfl (vN_flat _))) (congrArg V.bl (congrArg not (inV_nat n B))))) (fun n H4 e4 _ _ => ev_var rfl)
        refine s_app (xs := vN (slotsUpto ps i)) hl3 (ev_var rfl) ix (by rw [vN_len]; omega) fun H4 e4 => ?_
        refine ⟨_, _, rfl, Ex.mut ((e2.trans e3).trans e4) l0, ?_⟩
        rw [upd_same]
        show some (HO.lst (vN (slotsUpto ps i) ++ _)) = some (HO.lst (vN (slotsUpto ps i ++ [least _])))
        rw [hB]
        unfold vN
        rw [List.map_append]
        rfl
    · rintro σ' H' ⟨o3, o4, rfl, e2, hl2⟩
      rw [Int.toNat_natCast] at hl2
      exact s_ret (ev_var rfl) fun H3 e3 => k fl H3 l0 (e2.trans e3) (e3 _ _ hl2)
end
end K28
end
section
set_option Elab.async false
set_option linter.all false
set_option maxRecDepth 100000
set_option maxHeartbeats 4000000
namespace K28
local macro_rules | `(tactic| walk_at "pos") => `(tactic| (show (0 : Int) < _; first | decide | omega))
open PySem PySem.Spec PyProof.Rows L2 Lf 
open Evl
local macro_rules | `(tactic| walk_at "lk") => `(tactic| (simp (disch := decide +kernel) only [lk_hit, lk_miss, lk_nil]))
local macro_rules | `(tactic| walk_at "pf") => `(tactic| (simp (disch := decide +kernel) only [pf_hit, pf_miss, pf_nil]))
open Wm
structure Fit (m : Nat) (ps : PS) (sm : Nat) (q d j g : Int) : Prop where
  hsm : IsSm m ps sm
  hq : 1 ≤ q ∧ q ≤ 20
  hd : 0 ≤ d ∧ d ≤ 1000000000
  hj : 0 ≤ j ∧ j ≤ 1000000000
  hg : 0 ≤ g ∧ g ≤ 1000000000
  tight : 2 * g < 1000000 / (sm : Int)
  room : (m : Int) * (j + d * (q + 1)) ≤ g
def Sz (i : Int) : Prop := 0 ≤ i ∧ i ≤ 1000000000
def spNumbersL : Sp := fun vs H Q _ => ∃ (b : Addr × Addr) (l : Addr) (ws : List V) (m : Nat) (ps : PS), vs = [.ref b.1, .ref l, .int m] ∧ Bag H b ∧ H l = some (.lst ws) ∧ l ≠ b.1 ∧ PairsIn H ws ps ∧ Good m ps ∧
  ∀ (u : Addr) (sm : Nat) (q d j g : Int) (cs : List Int) (H' : Hp), Step b H H' → H u = none → H' u = some (.lst ([.int q, .int d, .int j, .int g] ++ cs.map V.int)) → Fit m ps sm q d j g → cs.length = 3 → (∀ c ∈ cs, Sz c) → Q (.ref u) H'
theorem has_max : ∀ {l : List Nat}, l ≠ [] → ∃ k ∈ l, ∀ j ∈ l, j ≤ k
  | [], h => absurd rfl h
  | [x], _ => ⟨x, List.mem_cons_self, fun j hj => by rw [List.mem_singleton.mp hj]; exact Nat.le_refl _⟩
  | x :: y :: r, _ => by
    obtain ⟨k, hk, hmax⟩ := has_max (l := y :: r) (by simp)
    rcases Nat.le_total x k with z | z
    · exact ⟨k, List.mem_cons_of_mem _ hk, fun j hj => (List.mem_cons.mp hj).elim (fun e => e ▸ z) (hmax j)⟩
    · exact ⟨x, List.mem_cons_self, fun j hj => (List.mem_cons.mp hj).elim (fun e => e ▸ Nat.le_refl _) (fun h => Nat.le_trans (hmax j h) z)⟩
theorem ints_of : ∀ {xs : List V} {p : Int → Prop}, (∀ v ∈ xs, ∃ i, v = .int i ∧ p i) → ∃ ns : List Int, xs = ns.map V.int ∧ ∀ n ∈ ns, p n
  | [], _, _ => ⟨[], rfl, fun _ h => by cases h⟩
  | x :: xs, p, h => by
    obtain ⟨ns, e, h1⟩ := ints_of fun v hv => h v (List.mem_cons_of_mem _ hv)
    obtain ⟨i, ei, hi⟩ := h x List.mem_cons_self
    exact ⟨i :: ns, by rw [e, ei]; rfl, fun n hn => (List.mem_cons.mp hn).elim (fun e => e ▸ hi) (h1 n)⟩
section
variable {K : PySem.W.Frag} {σ : L2.St} {H : Hp}
theorem el_catV {ta tb : TE} {xs ys : List V} {l : Addr} (h1 : EvL ta σ H xs) (hb : ∀ H1, Ex H H1 → Ev tb σ H1 (.ref l)) (hl : H l = some (.lst ys)) (hz : xs.length + ys.length ≤ sizeLine) : EvL (tOp rCat ta tb) σ H (xs ++ ys) := fun H1 e Q q =>
  h1 H1 e _ fun p H2 p0 e2 hp => hb H2 (e.trans e2) H2 (Ex.refl _) _ fun H3 e3 => ⟨p, l, xs, ys, rfl, rfl, e3 _ _ hp, e3 _ _ (e2 _ _ (e _ _ hl)), hz, fun r hr => q r _ (fresh_back (e2.trans e3) hr) ((e2.trans e3).trans (Ex.new hr)) upd_same⟩
end
section
variable {P : Program} {w : World} {K : PySem.W.Frag} {mg : Str → Option Value} {base : Heap} {CWeb CTerms cT pT : Addr} (T : Top K mg base CWeb CTerms cT pT)
include T
theorem c_lw_numbers : Cal P w K mg base CX0 4 "_law_numbers" spNumbersL := by
  refine T.d_lw_numbers.cal sc_lw_numbers (fun vs H Q E h => ?_) (fun f cdv A outer s H vs Q E g hr h => ?_)
  · obtain ⟨b, l, ws, m, ps, rfl, _⟩ := h
    rfl
  · obtain ⟨b, l, ws, m, ps, rfl, hb, hl, nl, hp, hg, k⟩ := h
    refine ⟨_, (pss_cons (ps_set (i := 3) sc_lw_numbers.nd rfl (Or.inl rfl) (pe_op op_fdivW (pe_op op_pow pe_int pe_int) (pe_op op_add pe_int (pe_callB (kcr (K := K) (r := rMax) (cr_max rfl) rfl) (by rfl) T.n_max (by decide +kernel) (pa_cons (ec (c_lw_slots T) g hr (by decide) pass0 (by rfl) (pa_cons (pv 1) (pa_cons (pv 2) pa_nil))) pa_nil)))))
    (pss_cons (ps_set (i := 4) sc_lw_numbers.nd rfl (Or.inl rfl) (pe_ix (kix (K := K) (r := rIxL) ix_list rfl) (pe_lst (pa_cons pe_int (pa_cons (pe_op op_add pe_int (ec (c_lw_take T) g hr (by decide) pass0 (by rfl) (pa_cons (pv 0) (pa_cons pe_int pa_nil)))) (pa_cons (pe_op op_add pe_int (ec (c_lw_take T) g hr (by decide) pass0 (by rfl) (pa_cons (pv 0) (pa_cons pe_int pa_nil)))) pa_nil)))) (ec (c_lw_take T) g hr (by decide) pass0 (by rfl) (pa_cons (pv 0) (pa_cons pe_int pa_nil))) (fun _ _ => rfl)))
    (pss_cons (ps_set (i := 5) sc_lw_numbers.nd rfl (Or.inl rfl) (pe_op op_fdivW (pe_op op_sub (pv 3) pe_int) pe_int))
    (pss_cons (ps_set (i := 6) sc_lw_numbers.nd rfl (Or.inl rfl) (pe_ix (kix (K := K) (r := rIxL) ix_list rfl) (pe_lst (pa_cons (pv 5) (pa_cons (ec (c_lw_take T) g hr (by decide) pass0 (by rfl) (pa_cons (pv 0) (pa_cons (pe_op op_add (pv 5) pe_int) pa_nil))) (pa_cons (ec (c_lw_take T) g hr (by decide) pass0 (by rfl) (pa_cons (pv 0) (pa_cons pe_int pa_nil))) pa_nil)))) (ec (c_lw_take T) g hr (by decide) pass0 (by rfl) (pa_cons (pv 0) (pa_cons pe_int pa_nil))) (fun _ _ => rfl)))
    (pss_cons (ps_set (i := 7) sc_lw_numbers.nd rfl (Or.inl rfl) (pe_op op_fdivW (pv 6) (pv 2)))
    (pss_cons (ps_set (i := 8) sc_lw_numbers.nd rfl (Or.inl rfl) (pe_ix (kix (K := K) (r := rIxL) ix_list rfl) (pe_lst (pa_cons pe_int (pa_cons (pv 7) (pa_cons (ec (c_lw_take T) g hr (by decide) pass0 (by rfl) (pa_cons (pv 0) (pa_cons (pe_op op_add (pv 7) pe_int) pa_nil))) pa_nil)))) (ec (c_lw_take T) g hr (by decide) pass0 (by rfl) (pa_cons (pv 0) (pa_cons pe_int pa_nil))) (fun _ _ => rfl)))
    (pss_cons (ps_set (i := 9) sc_lw_numbers.nd rfl (Or.inl rfl) (pe_op op_fdivW (pe_op op_sub (pv 7) (pv 8)) (pe_op op_add (pv 4) pe_int)))
    (pss_cons (ps_set (i := 9) sc_lw_numbers.nd rfl (Or.inl rfl) (pe_ix (kix (K := K) (r := rIxL) ix_list rfl) (pe_lst (pa_cons pe_int (pa_cons (pv 9) (pa_cons (ec (c_lw_take T) g hr (by decide) pass0 (by rfl) (pa_cons (pv 0) (pa_cons (pe_op op_add (pv 9) pe_int) pa_nil))) pa_nil)))) (ec (c_lw_take T) g hr (by decide) pass0 (by rfl) (pa_cons (pv 0) (pa_cons pe_int pa_nil))) (fun _ _ => rfl)))
    (pss_cons (ps_setLc (i := 10) (own := [("_law_k", 11)]) (g := (gName 11)) (tt := tYes) (by rfl) sc_lw_numbers.nd rfl rfl (sw_true rfl rfl rfl (by decide +kernel)) (pi_range1 (by rfl) T.n_range (pa_cons pe_int pa_nil)) (blkOk_by (own := [("_law_k", 11)]) (N := ns_lw_numbers) (sc := defScope s_lw_numbers) (by decide +kernel)) (fun _ _ _ _ _ => (pg_name (i := 11) sc_lw_numbers.nd rfl (Or.inl rfl))) (fun _ _ _ _ _ => pts_nil) (fun _ _ _ _ _ => (pe_ix (kix (K := K) (r := rIxL) ix_list rfl) (pe_lst (pa_cons pe_int (pa_cons (ec (c_lw_take T) g hr (by decide) pass0 (by rfl) (pa_cons (pv 0) (pa_cons pe_int pa_nil))) (pa_cons (ec (c_lw_take T) g hr (by decide) pass0 (by rfl) (pa_cons (pv 0) (pa_cons (pe_op op_add (pe_op op_pow pe_int pe_int) pe_int) pa_nil))) (pa_cons (pe_op op_pow pe_int pe_int) pa_nil))))) (ec (c_lw_take T) g hr (by decide) pass0 (by rfl) (pa_cons (pv 0) (pa_cons pe_int pa_nil))) (fun _ _ => rfl))))
    (pss_one (ps_ret (pe_op op_cat (pe_lst (pa_cons (pv 4) (pa_cons (pv 9) (pa_cons (pv 8) (pa_cons (pv 6) pa_nil))))) (pv 10))))))))))))), ?_⟩
    have m2 := hg.m2
    have m10 := hg.m10
    have slen : (slotsUpto ps m).length = m := slots_len _ _
    obtain ⟨s0, hs0, hmax⟩ := has_max (l := slotsUpto ps m) (fun z => by rw [z] at slen; simp at slen; omega)
    have ism : IsSm m ps (s0 + 1) := ⟨fun x hx => Nat.lt_succ_of_le (hmax x hx), s0, hs0, rfl⟩
    have smb := sm_le ism m10
    refine q_asg (ev_is (w := .int (1000000 / ((s0 + 1 : Nat) : Int))) (ev_op (ev_op ev_c ev_c (rv_I (C := CPow) ⟨by decide, by decide, by decide⟩)) (ev_op ev_c (ev_maxF (m := (s0 : Int)) (ns := (slotsUpto ps m).map fun n : Nat => (n : Int)) (by
      rw [List.map_map]
      exact el_cl (ea_cons (ev_var rfl) (ea_cons (ev_var rfl) ea_nil)) (fun H1 e Q q E => ⟨l, ws, m, ps, rfl, e _ _ hl, hp.ex e, hg, q⟩)) (by rw [List.length_map, slen]; omega) (List.mem_map.mpr ⟨s0, hs0, rfl⟩) (fun y hy => by
        obtain ⟨z, hz, rfl⟩ := List.mem_map.mp hy
        have := hmax z hz
        omega)) rv_I0) (rv_I (divW (by omega) (by omega)))) (congrArg V.int (by
          show (10 : Int) ^ 6 / (1 + (s0 : Int)) = _
          rw [show (1 : Int) + (s0 : Int) = ((s0 + 1 : Nat) : Int) by omega]
          rfl))) fun H1 e1 => ?_
    have hW1 : 100000 ≤ (1000000 : Int) / ((s0 + 1 : Nat) : Int) := Int.le_ediv_of_mul_le (by omega) (by omega)
    have hW2 : (1000000 : Int) / ((s0 + 1 : Nat) : Int) ≤ 1000000 := Int.ediv_le_self _ (by decide)
    generalize eW : (1000000 : Int) / ((s0 + 1 : Nat) : Int) = W at *
    have s1 : Step b H H1 := .pure hb e1
    refine q_dri (p := fun i => 1 ≤ i ∧ i ≤ 20) s1.1 (dri_pick (n := 3) (dra_cons (DrI.dr (dri_c (by decide))) (dra_cons (DrI.dr (dri_I0 (p := fun i => i = 1) (dri_c rfl) (dri_tk rfl (by decide) (by decide)) (by intro i j hi hj; omega))) (dra_cons (DrI.dr (dri_I0 (p := fun i => i = 1) (dri_c rfl) (dri_tk rfl (by decide) (by decide)) (by intro i j hi hj; omega))) (dra_nil rfl)))) (dri_tk rfl (by decide) (by decide)) (by decide)) fun q H2 s2 hq => ?_
    refine q_asg (ev_op (ev_op (ev_var rfl) ev_c rv_I0) ev_c (rv_I (divW (by decide) (by decide)))) fun H3 e3 => ?_
    have hh1 : 49999 ≤ (W - 1) / 2 := by omega
    have hh2 : 2 * ((W - 1) / 2) < W := by omega
    generalize (W - 1) / 2 = half at *
    have s3 : Step b H H3 := (s1.trans s2).trans (.pure s2.1 e3)
    refine q_dri (p := fun i => 0 ≤ i ∧ i ≤ half) s3.1 (dri_pick (n := 3) (dra_cons (DrI.dr (dri_var rfl ⟨by omega, by omega⟩)) (dra_cons (DrI.dr (dri_take rfl (dri_I0 (p := fun i => i = half) (q := fun i => i = 1) (dri_var rfl rfl) (dri_c rfl) (by rintro i j rfl rfl; exact ⟨⟨by omega, by omega⟩, fun v v0 v1 => ⟨v0, by omega⟩⟩)))) (dra_cons (DrI.dr ((dri_tk rfl (by decide) (by decide)).imp fun i hi => ⟨hi.1, by omega⟩)) (dra_nil rfl)))) (dri_tk rfl (by decide) (by decide)) (by decide)) fun g0 H4 s4 hg0 => ?_
    refine q_asg (ev_op (ev_var rfl) (ev_var rfl) (rv_I (divW (by omega) (by omega)))) fun H5 e5 => ?_
    have sl0 : 0 ≤ g0 / (m : Int) := Int.ediv_nonneg hg0.1 (by omega)
    have sl1 : (m : Int) * (g0 / (m : Int)) ≤ g0 := Int.mul_ediv_self_le (by omega)
    have sl2 : g0 / (m : Int) ≤ g0 := Int.ediv_le_self _ hg0.1
    generalize g0 / (m : Int) = slack at *
    have s5 : Step b H H5 := (s3.trans s4).trans (.pure s4.1 e5)
    refine q_dri (p := fun i => 0 ≤ i ∧ i ≤ slack) s5.1 (dri_pick (n := 3) (dra_cons (DrI.dr (dri_c ⟨by omega, by omega⟩)) (dra_cons (DrI.dr (dri_var rfl ⟨by omega, by omega⟩)) (dra_cons (DrI.dr (dri_take rfl (dri_I0 (p := fun i => i = slack) (q := fun i => i = 1) (dri_var rfl rfl) (dri_c rfl) (by rintro i j rfl rfl; exact ⟨⟨by omega, by omega⟩, fun v v0 v1 => ⟨v0, by omega⟩⟩)))) (dra_nil rfl)))) (dri_tk rfl (by decide) (by decide)) (by decide)) fun j0 H6 s6 hj0 => ?_
    refine q_asg (ev_op (ev_op (ev_var rfl) (ev_var rfl) rv_I0) (ev_op (ev_var rfl) ev_c rv_I0) (rv_I (divW (by omega) (by omega)))) fun H7 e7 => ?_
    have f0 : 0 ≤ (slack - j0) / (q + 1) := Int.ediv_nonneg (by omega) (by omega)
    have f1 : (q + 1) * ((slack - j0) / (q + 1)) ≤ slack - j0 := Int.mul_ediv_self_le (by omega)
    have f2 : (slack - j0) / (q + 1) ≤ slack - j0 := Int.ediv_le_self _ (by omega)
    generalize (slack - j0) / (q + 1) = far at *
    have s7 : Step b H H7 := (s5.trans s6).trans (.pure s6.1 e7)
    refine q_dri (p := fun i => 0 ≤ i ∧ i ≤ far) s7.1 (dri_pick (n := 3) (dra_cons (DrI.dr (dri_c ⟨by omega, by omega⟩)) (dra_cons (DrI.dr (dri_var rfl ⟨by omega, by omega⟩)) (dra_cons (DrI.dr (dri_take rfl (dri_I0 (p := fun i => i = far) (q := fun i => i = 1) (dri_var rfl rfl) (dri_c rfl) (by rintro i j rfl rfl; exact ⟨⟨by omega, by omega⟩, fun v v0 v1 => ⟨v0, by omega⟩⟩)))) (dra_nil rfl)))) (dri_tk rfl (by decide) (by decide)) (by decide)) fun d0 H8 s8 hd0 => ?_
    have s08 := s7.trans s8
    refine q_asgX (R := fun v H2 => ∃ l xs, v = .ref l ∧ Step b H8 H2 ∧ H8 l = none ∧ H2 l = some (.lst xs) ∧ xs.length = 3 ∧ ∀ v ∈ xs, ∃ i, v = V.int i ∧ Sz i) (fun Q q => x_lcRD (P := fun v => ∃ i, v = V.int i ∧ Sz i) (n := 3) s08.1 (ea_cons ev_c ea_nil) ⟨by decide, by decide⟩ (fun _ => rfl) (fun i H9 s9 _ _ => ?_) Q fun l xs H9 a1 a2 a3 a4 a5 => q _ _ ⟨l, xs, rfl, a1, a2, a3, a4, a5⟩) fun v H9 ⟨cl, xs, ev, s9, c0, hcl, hlen, hxs⟩ => ?_
    · exact DrI.dr (dri_pick (n := 4) (dra_cons (DrI.dr (dri_c ⟨by decide, by decide⟩)) (dra_cons (DrI.dr ((dri_tk rfl (by decide) (by decide)).imp fun i hi => ⟨hi.1, by omega⟩)) (dra_cons (DrI.dr (dri_take rfl (dri_I0 (p := fun i => i = 1000000000) (q := fun i => i = 1) (dri_I (C := CPow) (p := fun i => i = 10) (q := fun i => i = 9) (dri_c rfl) (dri_c rfl) (by rintro i j rfl rfl; exact ⟨⟨by decide, by decide, by decide⟩, by decide⟩)) (dri_c rfl) (by rintro i j rfl rfl; exact ⟨⟨by decide, by decide⟩, fun v v0 v1 => ⟨v0, by omega⟩⟩)))) (dra_cons (DrI.dr (dri_I (C := CPow) (p := fun i => i = 10) (q := fun i => i = 9) (dri_c rfl) (dri_c rfl) (by rintro i j rfl rfl; exact ⟨⟨by decide, by decide, by decide⟩, ⟨by decide, by decide⟩⟩))) (dra_nil rfl))))) (dri_tk rfl (by decide) (by decide)) (by decide))
    · subst ev
      obtain ⟨cs, rfl, hcs⟩ := ints_of hxs
      rw [List.length_map] at hlen
      have room : (m : Int) * (j0 + d0 * (q + 1)) ≤ g0 := by
        have h1 : d0 * (q + 1) ≤ slack - j0 := by
          refine Int.le_trans ?_ f1
          rw [Int.mul_comm]
          exact Int.mul_le_mul_of_nonneg_left hd0.2 (by omega)
        refine Int.le_trans (Int.mul_le_mul_of_nonneg_left (show j0 + d0 * (q + 1) ≤ slack by omega) (by omega)) sl1
      have few : 4 + cs.length ≤ sizeLine := by rw [hlen]; decide
      exact s_retL (el_catV (el_lst (ea_cons (ev_var rfl) (ea_cons (ev_var rfl) (ea_cons (ev_var rfl) (ea_cons (ev_var rfl) ea_nil)))) (by show 4 ≤ 100000; decide)) (fun H1 _ => ev_var rfl) hcl (by rw [List.length_map]; exact few)) fun u H10 u0 e10 hu => k u (s0 + 1) q d0 j0 g0 cs H10 ((s08.trans s9).trans (.pure s9.1 e10)) ((s08.trans s9).free u0) hu ⟨ism, hq, ⟨by omega, by omega⟩, ⟨by omega, by omega⟩, ⟨by omega, by omega⟩, by rw [eW]; omega, room⟩ hlen hcs
end
end K28
end
section
set_option Elab.async false
set_option linter.all false
set_option maxRecDepth 100000
set_option maxHeartbeats 4000000
namespace K28
local macro_rules | `(tactic| walk_at "pos") => `(tactic| (show (0 : Int) < _; first | decide | omega))
open PySem PySem.Spec PyProof.Rows L2 Lf 
open Evl
local macro_rules | `(tactic| walk_at "lk") => `(tactic| (simp (disch := decide +kernel) only [lk_hit, lk_miss, lk_nil]))
local macro_rules | `(tactic| walk_at "pf") => `(tactic| (simp (disch := decide +kernel) only [pf_hit, pf_miss, pf_nil]))
open Wm
structure Sx where
  p : Nat
  t : Nat
  e : Int
def Trm.W (t : Trm) : Int := 1000000 / (t.sm : Int)
def Trm.at_ (t : Trm) (s : Sx) : Int := 1000000 * (s.t : Int) + t.W * ((slotsUpto t.ps t.m).getD s.p 0 : Int)
def Sx.row (t : Trm) (s : Sx) : List V := [.int (s.p : Int), .int (s.t : Int), .int (t.at_ s), .int (t.at_ s + t.g - s.e), .int (t.at_ s + t.W - t.g - s.e)]
def SpOk (t : Trm) (ss : List Sx) : Prop := ∀ k s, ss[k]? = some s → s.p < t.m ∧ s.t < 3 ∧ k = s.t * t.m + s.p ∧ -t.g ≤ s.e ∧ s.e ≤ t.g
def spSpeech (K : PySem.W.Frag) (C CW : Addr) : Sp := fun vs H Q _ => ∃ (b : Addr × Addr) (x : Addr) (t : Trm), vs = [.ref b.1, .ref x, .int t.m] ∧ Bag H b ∧ TermsAt K C CW H x t ∧
  ∀ (u : Addr) (ws : List V) (ss : List Sx) (H' : Hp), Step b H H' → H u = none → H' u = some (.lst ws) → Tups H' ws (ss.map (Sx.row t)) → SpOk t ss → ss.length ≤ 30 → Q (.ref u) H'
theorem tups_step {H H' : Hp} {b : Addr × Addr} {xs : List V} {rs : List (List V)} (h : Tups H xs rs) (hb : Bag H b) (s : Step b H H') : Tups H' xs rs := ⟨h.1, fun i r hr => let ⟨u, h1, h2⟩ := h.2 i r hr; ⟨u, h1, s.at (tup_ne hb h2) h2⟩⟩
theorem fs_guard (t : Trm) (w pl : Addr) : (t.fs w pl).lookup ("guard" : Str) = some (V.int t.g) := by unfold Trm.fs; walk_at "lk"
theorem fs_slots (t : Trm) (w pl : Addr) : (t.fs w pl).lookup ("_slots_many" : Str) = some (V.int (t.sm : Int)) := by unfold Trm.fs; walk_at "lk"
theorem fs_web (t : Trm) (w pl : Addr) : (t.fs w pl).lookup ("web" : Str) = some (V.ref w) := by unfold Trm.fs; walk_at "lk"
theorem fs_width (t : Trm) (w pl : Addr) : (t.fs w pl).lookup ("width" : Str) = none := by unfold Trm.fs; walk_at "lk"
section
variable {P : Program} {w : World} {K : PySem.W.Frag} {mg : Str → Option Value} {base : Heap} {CWeb CTerms cT pT : Addr} (T : Top K mg base CWeb CTerms cT pT)
include T
theorem c_lw_speeches : Cal P w K mg base CX0 5 "_law_speeches" (spSpeech K CTerms CWeb) := by
  refine T.d_lw_speeches.cal sc_lw_speeches (fun vs H Q E h => ?_) (fun f cdv A outer s H vs Q E g hr h => ?_)
  · obtain ⟨b, x, t, rfl, _⟩ := h
    rfl
  · obtain ⟨b, x, t, rfl, hb, ⟨ok, dx, ww, pl, ys, hx, hW, hpl, hys⟩, k⟩ := h
    refine ⟨_, (pss_cons (ps_set (i := 3) sc_lw_speeches.nd rfl (Or.inl rfl) (pe_lst pa_nil))
    (pss_cons (ps_par (i := 4) (j := 5) (by rfl) sc_lw_speeches.nd rfl rfl (by decide) rfl rfl (pa_cons (emt0 (c_Terms_width T) g hr (by decide) pass0 (pv 1)) (pa_cons (k_fld (K := K) rfl (pv 1) rfl) pa_nil)) (by rfl))
    (pss_cons (ps_set (i := 6) sc_lw_speeches.nd rfl (Or.inl rfl) (emt0 (c_Web_slots T) g hr (by decide) pass0 (k_fld (K := K) rfl (pv 1) rfl)))
    (pss_cons (ps_for PassesOwn.never rfl (pi_range1 (by rfl) T.n_range (pa_cons pe_int pa_nil)) (pg_name (i := 7) sc_lw_speeches.nd rfl (Or.inl rfl)) (pss_one (ps_for PassesOwn.never rfl (pi_range1 (by rfl) T.n_range (pa_cons (pv 2) pa_nil)) (pg_name (i := 8) sc_lw_speeches.nd rfl (Or.inl rfl)) (pss_cons (ps_set (i := 9) sc_lw_speeches.nd rfl (Or.inl rfl) (pe_ix (kix (K := K) (r := rIxL) ix_list rfl) (pe_lst (pa_cons (pv 5) (pa_cons (pe_un un_neg (pv 5)) (pa_cons (pe_op op_sub (ec (c_lw_take T) g hr (by decide) pass0 (by rfl) (pa_cons (pv 0) (pa_cons (pe_op op_add (pe_op op_mul pe_int (pv 5)) pe_int) pa_nil))) (pv 5)) pa_nil)))) (ec (c_lw_take T) g hr (by decide) pass0 (by rfl) (pa_cons (pv 0) (pa_cons pe_int pa_nil))) (fun _ _ => rfl)))
            (pss_cons (ps_set (i := 10) sc_lw_speeches.nd rfl (Or.inl rfl) (pe_op op_add (pe_op op_mul (pe_op op_pow pe_int pe_int) (pv 7)) (pe_op op_mul (pv 4) (pe_ix (kix (K := K) (r := rIxL) ix_list rfl) (pv 6) (pv 8) (fun _ _ => rfl)))))
            (pss_one (ps_expr (k_bm (K := K) rfl PySem.F.plainAttrs_list PySem.F.slot_list_append PySem.F.type_list_append mt_append (pv 3) (pa_cons (pe_tup (pa_cons (pv 8) (pa_cons (pv 7) (pa_cons (pv 10) (pa_cons (pe_op op_sub (pe_op op_add (pv 10) (pv 5)) (pv 9)) (pa_cons (pe_op op_sub (pe_op op_sub (pe_op op_add (pv 10) (pv 4)) (pv 5)) (pv 9)) pa_nil)))))) pa_nil)))))))))
    (pss_one (ps_ret (pv 3))))))), ?_⟩
    have hW' := hW
    obtain ⟨hg, dxw, a1, a2, hp, _, _⟩ := hW'
    have m10 := hg.m10
    have m2 := hg.m2
    have smb := sm_le ok.sm m10
    have hgd := ok.g
    refine q_asgL (xs := []) (el_lst ea_nil (Nat.zero_le _)) fun l H1 l0 e1 hl => ?_
    refine q_par (x := .int t.W) (y := .int t.g) (ea_cons (ev_mt (ev_var rfl) (e1 _ _ hx) (fs_width t ww pl) ea_nil fun H2 e Q q E => ⟨x, dx, _, t.sm, rfl, e _ _ (e1 _ _ hx), fs_slots t ww pl, smb, q⟩) (ea_cons (ev_fld (ev_var rfl) (e1 _ _ hx) T.cl_Terms T.a_Termsguard (fs_guard t ww pl)) ea_nil)) fun H2 e2 => ?_
    have e12 := e1.trans e2
    refine q_asgL (xs := vN (slotsUpto t.ps t.m)) (el_mt (ev_fld (ev_var rfl) (e12 _ _ hx) T.cl_Terms T.a_Termsweb (fs_web t ww pl)) (e12 _ _ hp) (no_m (by decide +kernel)) ea_nil fun H3 e Q q E => ⟨ww, t.m, t.ps, rfl, (hW.ex e12).ex e, q⟩) fun sl H3 sl0 e3 hsl => ?_
    have s3 : Step b H H3 := .pure hb (e12.trans e3)
    have nl : l ≠ b.1 := hb.ne l0
    have nsl : sl ≠ b.1 := (hb.ex e12).ne sl0
    have nlsl : l ≠ sl := fun z => by
      have := e2 _ _ hl
      rw [z, sl0] at this
      cases this
    have hl3 := e3 _ _ (e2 _ _ hl)
    have slen : (slotsUpto t.ps t.m).length = t.m := slots_len _ _
    refine q_forR1 (n := 3) (ea_cons ev_c ea_nil) ⟨by decide, by decide⟩ (fun i σ' H' => ∃ o7 o8 o9 o10 ws ss, σ' = [some (.ref b.1), some (.ref x), some (.int (t.m : Int)), some (.ref l), some (.int t.W), some (.int t.g), some (.ref sl), o7, o8, o9, o10] ∧ Step b H H' ∧ H' sl = some (.lst (vN (slotsUpto t.ps t.m))) ∧ H' l = some (.lst ws) ∧ Tups H' ws (ss.map (Sx.row t)) ∧ SpOk t ss ∧ ss.length = i * t.m)
      (fun H4 e4 => ⟨none, none, none, none, [], [], rfl, s3.trans (.pure s3.1 e4), e4 _ _ hsl, e4 _ _ hl3, Tups.nil, (fun k s h => by simp at h), by rw [Nat.zero_mul]; rfl⟩) ?_ ?_
    · rintro i σ' H' hi ⟨o7, o8, o9, o10, ws, ss, rfl, s4, hsl4, hl4, hws, hss, hlen⟩
      refine s_forR1 (n := (t.m : Int)) (ea_cons (ev_var rfl) ea_nil) ⟨by omega, by omega⟩ (fun j σ' H' => ∃ o8 o9 o10 ws ss, σ' = [some (.ref b.1), some (.ref x), some (.int (t.m : Int)), some (.ref l), some (.int t.W), some (.int t.g), some (.ref sl), some (.int (i : Int)), o8, o9, o10] ∧ Step b H H' ∧ H' sl = some (.lst (vN (slotsUpto t.ps t.m))) ∧ H' l = some (.lst ws) ∧ Tups H' ws (ss.map (Sx.row t)) ∧ SpOk t ss ∧ ss.length = i * t.m + j)
        (fun H5 e5 => ⟨o8, o9, o10, ws, ss, rfl, s4.trans (.pure s4.1 e5), e5 _ _ hsl4, e5 _ _ hl4, hws.ex e5, hss, hlen⟩) ?_ ?_
      · rintro j σ' H' hj ⟨o8, o9, o10, ws, ss, rfl, s5, hsl5, hl5, hws, hss, hlen⟩
        have hjm : j < t.m := by omega
        refine q_dri (p := fun e => -t.g ≤ e ∧ e ≤ t.g) s5.1 (dri_pick (n := 3) (dra_cons (DrI.dr (dri_var rfl ⟨by omega, by omega⟩)) (dra_cons (DrI.dr (dri_neg (p := fun i => i = t.g) (dri_var rfl rfl) (by rintro i rfl; exact ⟨by omega, by omega⟩))) (dra_cons (DrI.dr (dri_I0 (p := fun i => 0 ≤ i ∧ i ≤ 2 * t.g) (q := fun i => i = t.g) (dri_take rfl (dri_I0 (p := fun i => i = 2 * t.g) (q := fun i => i = 1) (dri_I (C := CMul) (p := fun i => i = 2) (q := fun i => i = t.g) (dri_c rfl) (dri_var rfl rfl) (by rintro i j rfl rfl; exact ⟨.inl ⟨by decide, by decide⟩, rfl⟩)) (dri_c rfl) (by rintro i j rfl rfl; exact ⟨⟨by omega, by omega⟩, fun v v0 v1 => ⟨v0, by omega⟩⟩))) (dri_var rfl rfl) (by rintro i j ⟨hi0, hi1⟩ rfl; exact ⟨by omega, by omega⟩))) (dra_nil rfl)))) (dri_tk rfl (by decide) (by decide)) (by decide)) fun er H6 s6 her => ?_
        have hsl6 := s6.at nsl hsl5
        have hl6 := s6.at nl hl5
        have hws6 := tups_step hws s5.1 s6
        have wb : t.W ≤ 1000000 ∧ 0 ≤ t.W := ⟨Int.ediv_le_self _ (by decide), Int.ediv_nonneg (by decide) (by omega)⟩
        have gx : (slotsUpto t.ps t.m)[j]? = some ((slotsUpto t.ps t.m).getD j 0) := by rw [List.getD_eq_getElem?_getD, List.getElem?_eq_getElem (by omega)]; rfl
        refine q_asg (v := .int (t.at_ ⟨j, i, er⟩)) (ev_op (ev_op (ev_op ev_c ev_c (rv_I (C := CPow) ⟨by decide, by decide, by decide⟩)) (ev_var rfl) (rv_I (C := CMul) (.inl ⟨by decide, by decide⟩))) (ev_op (ev_var rfl) (ev_op (ev_var rfl) (ev_var rfl) (rv_ixL (sq_of hsl6) (atI_nat (vN_get gx)))) (rv_I (C := CMul) (.inl ⟨by omega, by omega⟩))) rv_I0) fun H7 e7 => ?_
        have s7 := (s5.trans s6).trans (.pure s6.1 e7)
        have wl : ws.length = i * t.m + j := by rw [hws.1, List.length_map, hlen]
        have i3 : i < 3 := by omega
        have im : i * t.m ≤ 2 * 10 := Nat.mul_le_mul (by omega) m10
        refine s_appU (ys := Sx.row t ⟨j, i, er⟩) (e7 _ _ hl6) (ev_var rfl) (eu_tup (ea_cons (ev_var rfl) (ea_cons (ev_var rfl) (ea_cons (ev_var rfl) (ea_cons (ev_op (ev_op (ev_var rfl) (ev_var rfl) rv_I0) (ev_var rfl) rv_I0) (ea_cons (ev_op (ev_op (ev_op (ev_var rfl) (ev_var rfl) rv_I0) (ev_var rfl) rv_I0) (ev_var rfl) rv_I0) ea_nil))))) (by show 5 ≤ 100000; decide)) (by omega) fun u H8 u0 e8 hu => ?_
        have nu : u ≠ l := fun z => by rw [z, e7 _ _ hl6] at u0; cases u0
        refine ⟨_, _, _, ws ++ [.ref u], ss ++ [⟨j, i, er⟩], rfl, (s7.trans (.pure s7.1 e8)).put hb l0, (upd_ne (Ne.symm nlsl)).trans (e8 _ _ (e7 _ _ hsl6)), upd_same, ?_, fun k s hk => ?_, by rw [List.length_append, hlen]; rfl⟩
        · rw [List.map_append]
          refine Tups.snoc (((hws6.ex e7).ex e8).mut fun r z => by rw [e8 _ _ (e7 _ _ hl6)] at z; cases z) ?_
          rw [upd_ne nu]
          exact hu
        · by_cases c : k < ss.length
          · rw [List.getElem?_append_left c] at hk
            exact hss k s hk
          · rw [List.getElem?_append_right (by omega)] at hk
            have h1 := (List.getElem?_eq_some_iff.mp hk).1
            have e0 : k - ss.length = 0 := by simp at h1; omega
            rw [e0] at hk
            cases hk
            exact ⟨hjm, i3, by show k = i * t.m + j; omega, her.1, her.2⟩
      · rintro σ' H' ⟨o8, o9, o10, ws, ss, rfl, s5, hsl5, hl5, hws, hss, hlen⟩
        exact ⟨_, _, _, _, ws, ss, rfl, s5, hsl5, hl5, hws, hss, by rw [hlen, Nat.succ_mul, Int.toNat_natCast]⟩
    · rintro σ' H' ⟨o7, o8, o9, o10, ws, ss, rfl, s4, hsl4, hl4, hws, hss, hlen⟩
      refine s_ret (ev_var rfl) fun H5 e5 => k l ws ss H5 (s4.trans (.pure s4.1 e5)) l0 (e5 _ _ hl4) (hws.ex e5) hss ?_
      have : ss.length = 3 * t.m := hlen
      omega
end
end K28
end
section
set_option Elab.async false
set_option linter.all false
set_option maxRecDepth 100000
set_option maxHeartbeats 4000000
namespace K28
local macro_rules | `(tactic| walk_at "pos") => `(tactic| (show (0 : Int) < _; first | decide | omega))
open PySem PySem.Spec PyProof.Rows L2 Lf 
open Evl
local macro_rules | `(tactic| walk_at "lk") => `(tactic| (simp (disch := decide +kernel) only [lk_hit, lk_miss, lk_nil]))
local macro_rules | `(tactic| walk_at "pf") => `(tactic| (simp (disch := decide +kernel) only [pf_hit, pf_miss, pf_nil]))
open Wm
def spRightT (K : PySem.W.Frag) (C CW : Addr) : Sp := fun vs H Q _ => ∃ (x lp l : Addr) (t : Trm) (pws ws : List V) (ss : List Sx), vs = [.ref x, .ref lp, .ref l] ∧ TermsAt K C CW H x t ∧ H lp = some (.lst pws) ∧ PairsIn H pws t.ps ∧ H l = some (.lst ws) ∧ Tups H ws (ss.map (Sx.row t)) ∧ SpOk t ss ∧ ss.length ≤ 30 ∧ RetV (.bl true) H Q
theorem clash_comm {m : Nat} {ps : PS} (g : Good m ps) {i j : Nat} : clash ps i j = clash ps j i := by
  unfold clash adj touch
  rw [decide_eq_decide.mpr (show i = j ↔ j = i from ⟨Eq.symm, Eq.symm⟩), decide_eq_decide.mpr (show j ∈ rowOf ps i ↔ i ∈ rowOf ps j from ⟨row_sym g, row_sym g⟩)]
  congr 2
  rw [Bool.eq_iff_iff, List.any_eq_true, List.any_eq_true]
  constructor
  · rintro ⟨x, h1, h2⟩
    exact ⟨x, of_decide_eq_true h2, decide_eq_true h1⟩
  · rintro ⟨x, h1, h2⟩
    exact ⟨x, of_decide_eq_true h2, decide_eq_true h1⟩
theorem slot_lt {t : Trm} (ok : t.Ok) {p : Nat} (hp : p < t.m) : (slotsUpto t.ps t.m).getD p 0 < t.sm := by
  have slen : (slotsUpto t.ps t.m).length = t.m := slots_len _ _
  refine ok.sm.1 _ ?_
  rw [List.getD_eq_getElem?_getD, List.getElem?_eq_getElem (by omega)]
  exact List.getElem_mem _
theorem W_le {t : Trm} (ok : t.Ok) {n : Nat} (h : n ≤ t.sm) : 0 ≤ t.W ∧ t.W * (n : Int) ≤ 1000000 := by
  have smb := sm_le ok.sm ok.web.m10
  have h0 : 0 ≤ t.W := Int.ediv_nonneg (by decide) (by omega)
  refine ⟨h0, Int.le_trans (Int.mul_le_mul_of_nonneg_left (show (n : Int) ≤ (t.sm : Int) by omega) h0) ?_⟩
  rw [Int.mul_comm]
  exact Int.mul_ediv_self_le (by omega)
theorem at_in {t : Trm} (ok : t.Ok) {s : Sx} (hp : s.p < t.m) : 1000000 * (s.t : Int) ≤ t.at_ s ∧ t.at_ s + t.W ≤ 1000000 * ((s.t : Int) + 1) := by
  have h1 := slot_lt ok hp
  have h2 := W_le ok (n := (slotsUpto t.ps t.m).getD s.p 0 + 1) h1
  have h3 := W_le ok (n := (slotsUpto t.ps t.m).getD s.p 0) (by omega)
  have h4 : 0 ≤ t.W * (((slotsUpto t.ps t.m).getD s.p 0 : Nat) : Int) := Int.mul_nonneg h3.1 (by omega)
  have e : t.W * (((slotsUpto t.ps t.m).getD s.p 0 + 1 : Nat) : Int) = t.W * (((slotsUpto t.ps t.m).getD s.p 0 : Nat) : Int) + t.W := by
    rw [Int.natCast_add, Int.mul_add]
    show _ + t.W * 1 = _
    rw [Int.mul_one]
  rw [e] at h2
  unfold Trm.at_
  generalize t.W * (((slotsUpto t.ps t.m).getD s.p 0 : Nat) : Int) = z at *
  omega
theorem at_apart {t : Trm} (ok : t.Ok) {s r : Sx} (hs : s.p < t.m) (hr : r.p < t.m) (h : s.t ≠ r.t ∨ (slotsUpto t.ps t.m).getD s.p 0 ≠ (slotsUpto t.ps t.m).getD r.p 0) : t.at_ s + t.W ≤ t.at_ r ∨ t.at_ r + t.W ≤ t.at_ s := by
  have as := at_in ok hs
  have ar := at_in ok hr
  by_cases c : s.t = r.t
  · have n : (slotsUpto t.ps t.m).getD s.p 0 ≠ (slotsUpto t.ps t.m).getD r.p 0 := h.resolve_left fun z => z c
    have w0 := (W_le ok (n := 0) (Nat.zero_le _)).1
    have key : ∀ a b : Nat, a < b → t.W * (a : Int) + t.W ≤ t.W * (b : Int) := fun a b hab => by
      have := Int.mul_le_mul_of_nonneg_left (show ((a + 1 : Nat) : Int) ≤ (b : Int) by omega) w0
      rw [Int.natCast_add, Int.mul_add] at this
      have e : t.W * ((1 : Nat) : Int) = t.W := Int.mul_one _
      rw [e] at this
      exact this
    unfold Trm.at_
    rw [c]
    rcases Nat.lt_or_gt_of_ne n with z | z
    · have := key _ _ z
      omega
    · have := key _ _ z
      omega
  · rcases Nat.lt_or_gt_of_ne c with z | z
    · left
      omega
    · right
      omega
section
variable {P : Program} {w : World} {K : PySem.W.Frag} {mg : Str → Option Value} {base : Heap} {CWeb CTerms cT pT : Addr} (T : Top K mg base CWeb CTerms cT pT)
include T
theorem c_lw_right : Cal P w K mg base CX0 3 "_law_right" (spRightT K CTerms CWeb) := by
  refine T.d_lw_right.cal sc_lw_right (fun vs H Q E h => ?_) (fun f cdv A outer s H vs Q E g hr h => ?_)
  · obtain ⟨x, lp, l, t, pws, ws, ss, rfl, _⟩ := h
    rfl
  · obtain ⟨x, lp, l, t, pws, ws, ss, rfl, ⟨ok, dx, ww, pl, ys, hx, hW, hpl, hys⟩, hlp, hpp, hl, hws, hss, hlen, k⟩ := h
    refine ⟨_, (pss_cons (ps_set (i := 3) sc_lw_right.nd rfl (Or.inl rfl) (emt0 (c_Terms_width T) g hr (by decide) pass0 (pv 0)))
    (pss_cons (ps_for PassesOwn.never rfl (k_list (K := K) rfl (pv 2)) (k_gtup (K := K) rfl (by rfl) (pgs_cons (pg_name (i := 4) sc_lw_right.nd rfl (Or.inl rfl)) (pgs_cons (pg_name (i := 5) sc_lw_right.nd rfl (Or.inl rfl)) (pgs_cons (pg_name (i := 6) sc_lw_right.nd rfl (Or.inl rfl)) (pgs_cons (pg_name (i := 7) sc_lw_right.nd rfl (Or.inl rfl)) (pgs_cons (pg_name (i := 8) sc_lw_right.nd rfl (Or.inl rfl)) pgs_nil)))))) (pss_cons (ps_if (PW.pt (pw_or (pt_not (pt_chain3 op_le op_lt op_le (pv 6) (pv 7) (pv 8) (pe_op op_add (pv 6) (pv 3)))) (pw_or1 (pt_not (pt_chain3 op_le op_le op_le (pe_op op_mul (pe_op op_pow pe_int pe_int) (pv 5)) (pv 6) (pe_op op_add (pv 6) (pv 3)) (pe_op op_mul (pe_op op_pow pe_int pe_int) (pe_op op_add (pv 5) pe_int))))))) (pss_one (ps_ret pe_bl)) pss_nil)
        (pss_one (ps_if (pt_cmpR op_ne (pe_op op_sub (pv 8) (pv 7)) (pe_op op_sub (pv 3) (pe_op op_mul pe_int (k_fld (K := K) rfl (pv 0) rfl))) (nomark _)) (pss_one (ps_ret pe_bl)) pss_nil))))
    (pss_cons (ps_for PassesOwn.never rfl (pi_range1 (by rfl) T.n_range (pa_cons (pe_callB (k_len (K := K) rfl) (by rfl) T.n_len PySem.boot_len (pa_cons (pv 2) pa_nil)) pa_nil)) (pg_name (i := 9) sc_lw_right.nd rfl (Or.inl rfl)) (pss_one (ps_for PassesOwn.never rfl (pi_range1 (by rfl) T.n_range (pa_cons (pv 9) pa_nil)) (pg_name (i := 10) sc_lw_right.nd rfl (Or.inl rfl)) (pss_cons (ps_par (i := 11) (j := 12) (by rfl) sc_lw_right.nd rfl rfl (by decide) rfl rfl (pa_cons (pe_ix (kix (K := K) (r := rIxL) ix_list rfl) (pv 2) (pv 10) (fun _ _ => rfl)) (pa_cons (pe_ix (kix (K := K) (r := rIxL) ix_list rfl) (pv 2) (pv 9) (fun _ _ => rfl)) pa_nil)) (by rfl))
            (pss_cons (ps_set (i := 13) sc_lw_right.nd rfl (Or.inl rfl) (pe_or (pe_cmpR op_le (pe_ix (kix (K := K) (r := rIxT) ix_tup rfl) (pv 11) pe_int (fun _ _ => rfl)) (pe_ix (kix (K := K) (r := rIxT) ix_tup rfl) (pv 12) pe_int (fun _ _ => rfl)) (nomark _)) (pe_one (pe_cmpR op_le (pe_ix (kix (K := K) (r := rIxT) ix_tup rfl) (pv 12) pe_int (fun _ _ => rfl)) (pe_ix (kix (K := K) (r := rIxT) ix_tup rfl) (pv 11) pe_int (fun _ _ => rfl)) (nomark _)))))
            (pss_one (ps_if (PW.pt (pw_and (pt_not (pt_val (pv 13))) (pw_and1 (PW.pt (pw_or (pt_cmpR op_eq (pe_ix (kix (K := K) (r := rIxT) ix_tup rfl) (pv 11) pe_int (fun _ _ => rfl)) (pe_ix (kix (K := K) (r := rIxT) ix_tup rfl) (pv 12) pe_int (fun _ _ => rfl)) (nomark _)) (pw_or1 (pt_val (ec (c_lw_clash T) g hr (by decide) pass0 (by rfl) (pa_cons (pv 1) (pa_cons (pe_ix (kix (K := K) (r := rIxT) ix_tup rfl) (pv 11) pe_int (fun _ _ => rfl)) (pa_cons (pe_ix (kix (K := K) (r := rIxT) ix_tup rfl) (pv 12) pe_int (fun _ _ => rfl)) pa_nil))))))))))) (pss_one (ps_ret pe_bl)) pss_nil)))))))
    (pss_one (ps_ret pe_bl))))), ?_⟩
    have m10 := ok.web.m10
    have smb := sm_le ok.sm m10
    have hgd := ok.g
    have tight : 2 * t.g < t.W := ok.tight
    have wl : ws.length = ss.length := by rw [hws.1, List.length_map]
    refine q_asg (v := .int t.W) (ev_mt (ev_var rfl) hx (fs_width t ww pl) ea_nil fun H2 e Q q E => ⟨x, dx, _, t.sm, rfl, e _ _ hx, fs_slots t ww pl, smb, q⟩) fun H1 e1 => ?_
    have row : ∀ {H2 : Hp} {i : Nat}, Ex H H2 → i < ss.length → ∃ u s, ws[i]? = some (.ref u) ∧ ss[i]? = some s ∧ H2 u = some (.tup (Sx.row t s)) ∧ s.p < t.m ∧ s.t < 3 ∧ i = s.t * t.m + s.p ∧ -t.g ≤ s.e ∧ s.e ≤ t.g := fun {H2 i} e hi => by
      have es : ss[i]? = some ss[i] := List.getElem?_eq_getElem hi
      obtain ⟨u, h1, h2⟩ := hws.2 i _ (by rw [List.getElem?_map, es]; rfl)
      exact ⟨u, ss[i], h1, es, e _ _ h2, hss i _ es⟩
    refine q_forL (xs := ws) (ev_var rfl) (sq_of (e1 _ _ hl)) (fun i σ' H' => ∃ o4 o5 o6 o7 o8, σ' = [some (.ref x), some (.ref lp), some (.ref l), some (.int t.W), o4, o5, o6, o7, o8, none, none, none, none, none] ∧ Ex H H') (fun H2 e2 => ⟨none, none, none, none, none, rfl, e1.trans e2⟩) (fun i σ' H' _ ⟨_, _, _, _, _, _, e⟩ => sq_of (e _ _ hl)) ?_ ?_
    · rintro i v σ' H' hv ⟨o4, o5, o6, o7, o8, rfl, e2⟩
      have hi : i < ss.length := by have := (List.getElem?_eq_some_iff.mp hv).1; omega
      obtain ⟨u, s, h1, _, hu, hp, ht, _, he1, he2⟩ := row e2 hi
      rw [hv] at h1
      cases h1
      refine ⟨u, _, rfl, st_of hu, rfl, _, _, rfl, _, _, rfl, _, _, rfl, _, _, rfl, _, _, rfl, rfl, ?_⟩
      have ai := at_in ok hp
      have le_ : ∀ {i j : Int} {H2 : Hp}, i ≤ j → RV (rI0 fun i j => V.bl (decide (i ≤ j))) (.int i) (.int j) H2 (.bl true) := fun {i j H2} h => by
        have := rv_I0 (H := H2) (g := fun i j => V.bl (decide (i ≤ j))) (i := i) (j := j)
        rwa [decide_eq_true h] at this
      have lt_ : ∀ {i j : Int} {H2 : Hp}, i < j → RV (rI0 fun i j => V.bl (decide (i < j))) (.int i) (.int j) H2 (.bl true) := fun {i j H2} h => by
        have := rv_I0 (H := H2) (g := fun i j => V.bl (decide (i < j))) (i := i) (j := j)
        rwa [decide_eq_true h] at this
      have mil : ∀ {σ : L2.St} {H2 : Hp}, Ev (tOp (rI CPow fun i j => V.int (i ^ j.toNat)) (tC (.int 10)) (tC (.int 6))) σ H2 (.int 1000000) := fun {σ H2} => ev_is (ev_op ev_c ev_c (rv_I (C := CPow) ⟨by decide, by decide, by decide⟩)) rfl
      refine q_when (b := false) (et_is (et_or (et_not (et_chain3 (ev_var rfl) (ev_var rfl) (ev_var rfl) (ev_op (ev_var rfl) (ev_var rfl) rv_I0) (le_ (by omega)) (lt_ (by omega)) (le_ (by omega)))) (fun _ => et_not (et_chain3 (ev_op mil (ev_var rfl) (rv_I (C := CMul) (.inl ⟨by decide, by decide⟩))) (ev_var rfl) (ev_op (ev_var rfl) (ev_var rfl) rv_I0) (ev_op mil (ev_op (ev_var rfl) ev_c rv_I0) (rv_I (C := CMul) (.inl ⟨by decide, by decide⟩))) (le_ ai.1) (le_ (by omega)) (le_ ai.2)))) rfl) (fun h => nomatch h) fun _ H3 e3 => ?_
      refine s_when (b := false) (et_is (et_test (ev_op (ev_op (ev_var rfl) (ev_var rfl) rv_I0) (ev_op (ev_var rfl) (ev_op ev_c (ev_fld (ev_var rfl) (e3 _ _ (e2 _ _ hx)) T.cl_Terms T.a_Termsguard (fs_guard t ww pl)) (rv_I (C := CMul) (.inl ⟨by decide, by decide⟩))) rv_I0) (rv_ne rfl))) ?_) (fun h => nomatch h) fun _ H4 e4 => ⟨_, _, _, _, _, rfl, (e2.trans e3).trans e4⟩
      rw [show t.at_ s + t.W - t.g - s.e - (t.at_ s + t.g - s.e) = t.W - 2 * t.g by omega, decide_eq_true rfl]
      rfl
    · rintro σ' H' ⟨o4, o5, o6, o7, o8, rfl, e2⟩
      refine q_forR1 (n := (ss.length : Int)) (ea_cons (ev_is (ev_lenL (ev_var rfl) (sq_of (e2 _ _ hl))) (congrArg V.int (by rw [wl]))) ea_nil) ⟨by omega, by omega⟩ (fun i σ' H' => ∃ o9 o10 o11 o12 o13, σ' = [some (.ref x), some (.ref lp), some (.ref l), some (.int t.W), o4, o5, o6, o7, o8, o9, o10, o11, o12, o13] ∧ Ex H H') (fun H3 e3 => ⟨none, none, none, none, none, rfl, e2.trans e3⟩) ?_ ?_
      · rintro i σ' H' hi ⟨o9, o10, o11, o12, o13, rfl, e3⟩
        have hi' : i < ss.length := by omega
        refine s_forR1 (n := (i : Int)) (ea_cons (ev_var rfl) ea_nil) ⟨by omega, by omega⟩ (fun j σ' H' => ∃ o10 o11 o12 o13, σ' = [some (.ref x), some (.ref lp), some (.ref l), some (.int t.W), o4, o5, o6, o7, o8, some (.int (i : Int)), o10, o11, o12, o13] ∧ Ex H H') (fun H4 e4 => ⟨o10, o11, o12, o13, rfl, e3.trans e4⟩) ?_ ?_
        · rintro j σ' H' hj ⟨o10, o11, o12, o13, rfl, e4⟩
          have hj' : j < ss.length := by omega
          obtain ⟨uk, r, k1, kr, huk, rp, rt, rk, r1, r2⟩ := row e4 hi'
          obtain ⟨uj, s, j1, js, huj, sp, st, sk, s1, s2⟩ := row e4 hj'
          refine q_par (x := .ref uj) (y := .ref uk) (ea_cons (ev_op (ev_var rfl) (ev_var rfl) (rv_ixL (sq_of (e4 _ _ hl)) (atI_nat j1))) (ea_cons (ev_op (ev_var rfl) (ev_var rfl) (rv_ixL (sq_of (e4 _ _ hl)) (atI_nat k1))) ea_nil)) fun H5 e5 => ?_
          have e45 := e4.trans e5
          have huk5 := e5 _ _ huk
          have huj5 := e5 _ _ huj
          have ij : ∀ {u : Addr} {z : Sx} {H2 : Hp} {σ : L2.St} {n : Nat} {v : V} {m : Nat}, H5 u = some (.tup (Sx.row t z)) → Ex H5 H2 → σ[n]? = some (some (.ref u)) → (Sx.row t z)[m]? = some v → Ev (tOp (rIxT K) (tVar n) (tC (.int (m : Int)))) σ H2 v := fun hu e hn hv => ev_op (ev_var hn) ev_c (rv_ixT (st_of (e _ _ hu)) (atI_nat hv))
          refine q_asg (ev_orV (ev_op (ij (m := 4) huj5 (Ex.refl _) rfl rfl) (ij (m := 3) huk5 (Ex.refl _) rfl rfl) rv_I0) (fun _ => ev_op (ij (m := 4) huk5 (Ex.refl _) rfl rfl) (ij (m := 3) huj5 (Ex.refl _) rfl rfl) rv_I0)) fun H6 e6 => ?_
          have few : (decide (V.int (s.p : Int) = V.int (r.p : Int)) : Bool) = decide (s.p = r.p) := decide_eq_decide.mpr ⟨fun h => by have := V.int.inj h; omega, fun h => by rw [h]⟩
          refine s_when (b := false) (et_is (et_and (et_not (et_B (ev_var rfl))) fun _ => et_or (et_test (ev_op (ij (m := 0) huj5 e6 rfl rfl) (ij (m := 0) huk5 e6 rfl rfl) (rv_eq rfl))) fun _ => et_B (ev_cl (ea_cons (ev_var rfl) (ea_cons (ij (m := 0) huj5 e6 rfl rfl) (ea_cons (ij (m := 0) huk5 e6 rfl rfl) ea_nil))) (fun H7 e7 Q q E => ⟨lp, pws, t.m, t.ps, s.p, r.p, rfl, (((e45.trans e6).trans e7)) _ _ hlp, hpp.ex ((e45.trans e6).trans e7), ok.web, q⟩))) ?_) (fun h => nomatch h) fun _ H7 e7 => ⟨_, _, _, _, rfl, (e45.trans e6).trans e7⟩
          rw [few]
          have as := at_in ok sp
          have ar := at_in ok rp
          by_cases c : s.t ≠ r.t ∨ (slotsUpto t.ps t.m).getD s.p 0 ≠ (slotsUpto t.ps t.m).getD r.p 0
          · have ap := at_apart ok sp rp c
            have : (decide (t.at_ s + t.W - t.g - s.e ≤ t.at_ r + t.g - r.e) || decide (t.at_ r + t.W - t.g - r.e ≤ t.at_ s + t.g - s.e)) = true := by
              rcases ap with z | z
              · rw [decide_eq_true (by omega)]; rfl
              · rw [decide_eq_true (show t.at_ r + t.W - t.g - r.e ≤ t.at_ s + t.g - s.e by omega), Bool.or_true]
            rw [this]
            rfl
          · have ct : s.t = r.t := Decidable.byContradiction fun z => c (.inl z)
            have cs : (slotsUpto t.ps t.m).getD s.p 0 = (slotsUpto t.ps t.m).getD r.p 0 := Decidable.byContradiction fun z => c (.inr z)
            have np : s.p ≠ r.p := fun z => by rw [ct, z] at sk; omega
            have ncl : clashL t.ps s.p r.p = false := by
              rw [clashL_eq ok.web np]
              cases hc : clash t.ps s.p r.p with
              | false => rfl
              | true =>
                rcases Nat.lt_or_gt_of_ne np with z | z
                · exact absurd cs (slots_apart t.ps z rp hc)
                · exact absurd cs.symm (slots_apart t.ps z sp (by rw [clash_comm ok.web]; exact hc))
            rw [decide_eq_false np, ncl]
            exact Bool.and_false _
        · rintro σ' H' ⟨o10, o11, o12, o13, rfl, e4⟩
          exact ⟨_, _, _, _, _, rfl, e4⟩
      · rintro σ' H' ⟨o9, o10, o11, o12, o13, rfl, e3⟩
        exact s_ret ev_c fun H4 e4 => k H4 (e3.trans e4)
end
end K28
end
section
set_option Elab.async false
set_option linter.all false
set_option maxRecDepth 100000
set_option maxHeartbeats 4000000
namespace K28
local macro_rules | `(tactic| walk_at "pos") => `(tactic| (show (0 : Int) < _; first | decide | omega))
open PySem PySem.Spec PyProof.Rows L2 Lf 
open Evl
local macro_rules | `(tactic| walk_at "lk") => `(tactic| (simp (disch := decide +kernel) only [lk_hit, lk_miss, lk_nil]))
local macro_rules | `(tactic| walk_at "pf") => `(tactic| (simp (disch := decide +kernel) only [pf_hit, pf_miss, pf_nil]))
open Wm
theorem kp_mask {H H' : Hp} {c : Addr} (k : Kp H H') : Kp (Lf.mask c H) (Lf.mask c H') := fun a o h n => by
  by_cases hc : a = c
  · rw [hc, mask_self] at h
    cases h
  · rw [mask_at hc] at h ⊢
    exact k a o h n
theorem bag_kp {H H' : Hp} {b : Addr × Addr} (h : Bag H b) (k : Kp H H') : Bag H' b := by
  obtain ⟨x, y, z, ns, h1, h2, h3⟩ := h
  exact ⟨x, y, z, ns, k _ _ h1 (fun _ z => nomatch z), k _ _ h2 (fun _ z => nomatch z), h3⟩
theorem tups_mask {H : Hp} {b : Addr × Addr} {xs : List V} {rs : List (List V)} (h : Tups H xs rs) (hb : Bag H b) : Tups (Lf.mask b.1 H) xs rs := ⟨h.1, fun i r hr => let ⟨u, h1, h2⟩ := h.2 i r hr; ⟨u, h1, (mask_at (tup_ne hb h2)).trans h2⟩⟩
theorem tab_step {H H' : Hp} {b : Addr × Addr} {P : Addr} (h : GxR.TabG H P) (hb : Bag H b) (s : Step b H H') : GxR.TabG H' P := by
  obtain ⟨ps, h1, h2⟩ := h
  obtain ⟨ys, h3⟩ := bag_lst hb
  exact ⟨ps, s.at (ne_of h1 h3 (by intro z; cases z)) h1, h2⟩
section
variable {K : PySem.W.Frag} {σ : L2.St} {H : Hp}
/-- [(..)] * n -/
theorem ex_repU {te tn : TE} {ys : List V} {n : Nat} (h : EvU te σ H ys) (hn : ∀ H1, Ev tn σ H1 (.int (n : Int))) (hz : n ≤ 1000) : EvX (tOp rRep (tLst (tCons te tNil)) tn) σ H fun v H' => ∃ l u, v = .ref l ∧ H l = none ∧ Ex H H' ∧ H' u = some (.tup ys) ∧ H' l = some (.lst (List.replicate n (.ref u))) := fun Q q =>
  h H (Ex.refl _) _ fun u H1 u0 e1 hu => ⟨by show 1 ≤ sizeLine; decide, fun l1 hl1 => hn _ _ (Ex.refl _) _ fun H2 e2 => ⟨l1, n, [.ref u], rfl, rfl, e2 _ _ upd_same, by omega, by omega, by
    rw [Int.toNat_natCast]
    exact Nat.le_trans (show 1 * n ≤ 1000 by omega) (by decide), fun p hp => by
    rw [Int.toNat_natCast, flat_rep]
    have e02 := (e1.trans (Ex.new (o := .lst [.ref u]) hl1)).trans e2
    exact q _ _ ⟨p, u, rfl, fresh_back e02 hp, e02.trans (Ex.new hp), Ex.new hp _ _ (e2 _ _ (Ex.new hl1 _ _ hu)), upd_same⟩⟩⟩
end
def pl0 : Pl := ⟨0, 0, 0, 0, "w"⟩
theorem pl0_ok {d : Int} (h : 0 ≤ d) : pl0.Ok d := ⟨⟨by show -d ≤ 0; omega, h⟩, ⟨by decide, by decide⟩, ⟨by decide, by decide⟩, ⟨by decide, by decide⟩, ⟨by decide, by decide, by decide⟩⟩
theorem rep_tups {H : Hp} {u : Addr} (h : H u = some (.tup pl0.row)) (n : Nat) : Tups H (List.replicate n (.ref u)) ((List.replicate n pl0).map Pl.row) := ⟨by rw [List.length_map, List.length_replicate, List.length_replicate], fun i r hr => by
  rw [List.getElem?_map, List.getElem?_replicate] at hr
  by_cases c : i < n
  · rw [if_pos c] at hr
    cases hr
    exact ⟨u, by rw [List.getElem?_replicate, if_pos c], h⟩
  · rw [if_neg c] at hr
    cases hr⟩
section
variable {P : Program} {w : World} {K : PySem.W.Frag} {mg : Str → Option Value} {base : Heap} {CWeb CTerms cT pT : Addr} (T : Top K mg base CWeb CTerms cT pT)
include T
theorem f_law {f : Addr} {fd : FuncData} (F : L2.Fun K "law" "law" s_law f fd) : Fn P w K mg base CX0 12 f fd ["_law_script"] (spLawT K pT) := by
  refine fn0G F sc_law (fun vs H Q E h => ?_) (fun cdv A outer s H vs Q E g hr h => ?_)
  · obtain ⟨a, ns, rfl, _⟩ := h
    rfl
  · obtain ⟨a, ns, rfl, hT, hx, hl, k⟩ := h
    refine ⟨_, (pss_cons (ps_set (i := 1) sc_law.nd rfl (Or.inl rfl) (ec (c_lw_bag T) g hr (by decide) pass0 (by rfl) (pa_cons (pv 0) pa_nil)))
    (pss_cons (ps_for PassesOwn.never rfl (pi_range1 (by rfl) T.n_range (pa_cons pe_int pa_nil)) (pg_name (i := 2) sc_law.nd rfl (Or.inl rfl)) (pss_cons (ps_set (i := 3) sc_law.nd rfl (Or.inl rfl) (pe_op op_add pe_int (ec (c_lw_take T) g hr (by decide) pass0 (by rfl) (pa_cons (pv 1) (pa_cons pe_int pa_nil)))))
        (pss_cons (ps_set (i := 4) sc_law.nd rfl (Or.inl rfl) (ec (c_lw_pairs T) g hr (by decide) pass0 (by rfl) (pa_cons (pv 1) (pa_cons (pv 3) pa_nil))))
        (pss_cons (ps_asg (pe_slice (ksl (K := K) (r := rSlL) sl_list rfl) (ec (c_lw_numbers T) g hr (by decide) pass0 (by rfl) (pa_cons (pv 1) (pa_cons (pv 4) (pa_cons (pv 3) pa_nil)))) po_none (po_some pe_int)) (pg_lst (by rfl) (pgs_cons (pg_name (i := 5) sc_law.nd rfl (Or.inl rfl)) (pgs_cons (pg_name (i := 6) sc_law.nd rfl (Or.inl rfl)) (pgs_cons (pg_name (i := 7) sc_law.nd rfl (Or.inl rfl)) (pgs_cons (pg_name (i := 8) sc_law.nd rfl (Or.inl rfl)) pgs_nil))))))
        (pss_cons (ps_set (i := 9) sc_law.nd rfl (Or.inl rfl) (pe_op op_rep (pe_lst (pa_cons (pe_tup (pa_cons pe_int (pa_cons pe_int (pa_cons pe_int (pa_cons pe_int (pa_cons pe_str pa_nil)))))) pa_nil)) (pe_op op_sub (pv 3) pe_int)))
        (pss_cons (ps_set (i := 10) sc_law.nd rfl (Or.inl rfl) (emkK (c_Terms T) g hr (by decide) pass0 (by rfl) (pa_cons (emk (c_Web T) g hr (by decide) pass0 (by rfl) (pa_cons (pv 3) (pa_cons (pv 4) pa_nil))) (pa_cons (pv 9) pa_nil)) (pk_cons (pv 5) (pk_cons (pv 6) (pk_cons (pv 7) (pk_cons (pv 8) pk_nil))))))
        (pss_one (ps_if (pt_not (pt_val (ec (c_lw_right T) g hr (by decide) pass0 (by rfl) (pa_cons (pv 10) (pa_cons (pv 4) (pa_cons (ec (c_lw_speeches T) g hr (by decide) pass0 (by rfl) (pa_cons (pv 1) (pa_cons (pv 10) (pa_cons (pv 3) pa_nil)))) pa_nil)))))) (pss_one (ps_ret pe_bl)) pss_nil))))))))
    (pss_one (ps_ret pe_bl)))), ?_⟩
    refine ⟨_, rfl, a, ns, rfl, hx, hl, fun b H1 e1 b0 hb1 => ?_⟩
    dsimp only [gName]
    refine q_forR1 (n := 2) (ea_cons ev_c ea_nil) ⟨by decide, by decide⟩ (fun _ σ' H' => ∃ o2 o3 o4 o5 o6 o7 o8 o9 o10, σ' = [some (.ref a), some (.ref b.1), o2, o3, o4, o5, o6, o7, o8, o9, o10] ∧ Bag H' b ∧ GxR.TabG H' pT) (fun H2 e2 => ⟨_, _, _, _, _, _, _, _, _, rfl, hb1.ex e2, tab_ex hT (e1.trans e2)⟩) ?_ ?_
    · rintro i σ' H2 hi ⟨o2, o3, o4, o5, o6, o7, o8, o9, o10, rfl, hb, hT2⟩
      refine q_dri (p := fun m => 2 ≤ m ∧ m ≤ 10) hb (dri_I0 (p := fun i => i = 2) (dri_c rfl) (dri_tk rfl (by decide) (by decide)) (by intro i j hi hj; omega)) fun m H3 s3 hm => ?_
      obtain ⟨m, rfl⟩ := Int.eq_ofNat_of_zero_le (show 0 ≤ m by omega)
      have hT3 := tab_step hT2 hb s3
      refine q_clA (ea_cons (ev_var rfl) (ea_cons (ev_var rfl) ea_nil)) fun H4 e4 => ⟨b, m, rfl, s3.1.ex e4, ⟨by omega, by omega⟩, fun pl ps pws H5 hg s5 pl0' hpl hpp => ?_⟩
      have hb4 := s3.1.ex e4
      have hT4 := tab_ex hT3 e4
      have hT5 := tab_step hT4 hb4 s5
      have npl : pl ≠ b.1 := hb4.ne pl0'
      refine ⟨_, rfl, _, rfl, _, rfl, b, pl, pws, m, ps, rfl, s5.1, hpl, npl, hpp, hg, fun u sm q d j g0 cs H6 s6 u0 hu fit hc hcs => ?_⟩
      have cutE : cutV ([V.int q, .int d, .int j, .int g0] ++ cs.map V.int) none (some 4) = [V.int q, .int d, .int j, .int g0] := cutV_take _ (j := 4) (by rw [List.length_append]; show 4 ≤ 4 + _; omega)
      refine ⟨4, rfl, u, _, rfl, sq_of hu, fun v hv => ?_⟩
      rw [cutE]
      refine ⟨v, _, rfl, sq_of upd_same, rfl, _, _, rfl, _, _, rfl, _, _, rfl, _, _, rfl, rfl, ?_⟩
      have s56 : Step b H5 H6 := s6
      have s57 : Step b H5 (L2.upd H6 v (.lst [V.int q, .int d, .int j, .int g0])) := s6.trans (.pure s6.1 (Ex.new hv))
      generalize L2.upd H6 v (.lst [V.int q, .int d, .int j, .int g0]) = H7 at s57 ⊢
      have hT7 := tab_step hT5 s5.1 s57
      have hpl7 := s57.at npl hpl
      have hpp7 := hpp.step s5.1 s57
      have hb7 := s57.1
      have em : ∀ {σ : L2.St} {H1 : Hp}, σ[3]? = some (some (.int (m : Int))) → Ev (tOp (rI0 fun i j => V.int (i - j)) (tVar 3) (tC (.int 1))) σ H1 (.int ((m - 1 : Nat) : Int)) := fun h3 => ev_is (ev_op (ev_var h3) ev_c rv_I0) (congrArg V.int (by omega))
      refine q_asgX (ex_repU (n := m - 1) (eu_tup (ea_cons ev_c (ea_cons ev_c (ea_cons ev_c (ea_cons ev_c (ea_cons ev_c ea_nil))))) (by show 5 ≤ 100000; decide)) (fun H1 => em rfl) (by omega)) fun v2 H8 ⟨ll, u8, ev2, ll0, e8, hu8, hll⟩ => ?_
      subst ev2
      have hb8 := hb7.ex e8
      have hT8 := tab_ex hT7 e8
      have hxs := rep_tups hu8 (m - 1)
      -- the terms
      refine ⟨_, rfl, _, rfl, fun xw dw xw0 dw0 nd => ⟨H8, xw, dw, m, .ref pl, ps, rfl, (hpp7.ex e8).dp (sq_of (e8 _ _ hpl7)), hg, Ex.mut (Ex.new dw0) xw0, xw0, upd_same, fun H9 e9 hnew => ⟨rfl, ?_⟩⟩⟩
      have hb9 := hb8.ex e9
      have hT9 := tab_ex hT8 e9
      have hW9 : WebAt K CWeb H9 xw m ps := hnew.at
      have hWm : WebAt K CWeb (Lf.mask b.1 H9) xw m ps := hnew.mask hb8 hb9
      have z0 : (0 : Int) ≤ 0 ∧ (0 : Int) ≤ 1000000000 := ⟨by decide, by decide⟩
      have okt : (⟨m, ps, List.replicate (m - 1) pl0, sm, q, d, j, g0, 0, 0, 0⟩ : Trm).Ok := ⟨hg, by show (List.replicate (m - 1) pl0).length + 1 = m; rw [List.length_replicate]; omega, fun p hp => by rw [List.eq_of_mem_replicate hp]; exact pl0_ok fit.hd.1, fit.hsm, fit.hq, fit.hd, fit.hj, fit.hg, z0, z0, z0, fit.tight, fit.room⟩
      generalize eT : (⟨m, ps, List.replicate (m - 1) pl0, sm, q, d, j, g0, 0, 0, 0⟩ : Trm) = t at okt
      have tm : t.m = m := by rw [← eT]
      have tps : t.ps = ps := by rw [← eT]
      refine ⟨_, rfl, _, rfl, _, rfl, _, rfl, _, rfl, rfl, rfl, fun x dx x0 dx0 nd2 => ⟨H9, x, dx, xw, ll, t, List.replicate (m - 1) (.ref u8), by rw [← eT]; rfl, okt, by rw [tm, tps]; exact hW9, e9 _ _ hll, by rw [← eT]; exact hxs.ex e9, hT9, .pure hT9 (Ex.mut (Ex.new dx0) x0), x0, upd_same, fun H10 t10 hn => ⟨rfl, ?_⟩⟩⟩
      have kp10 := t10.kp hT9
      have hb10 := bag_kp hb9 kp10
      obtain ⟨_, dx', pl', ys, hx10, _, pl0'', hpl10, hys10⟩ := hn
      have TM : TermsAt K CTerms CWeb (Lf.mask b.1 H10) x t := by
        obtain ⟨bs, hbs⟩ := bag_lst hb10
        refine ⟨okt, dx', xw, pl', ys, (mask_at (ne_of hx10 hbs (by intro z; cases z))).trans hx10, by rw [tm, tps]; exact web_kp hWm (kp_mask kp10), (mask_at (fun z => ?_)).trans hpl10, tups_mask hys10 hb10⟩
        obtain ⟨bs9, hbs9⟩ := bag_lst hb9
        rw [z, hbs9] at pl0''
        cases pl0''
      have hplA : H10 pl = some (.lst pws) := kp10 _ _ (e9 _ _ (e8 _ _ hpl7)) fun _ z => nomatch z
      have hppA : PairsIn H10 pws ps := ⟨hpp7.1, fun i p hp => let ⟨u, h1, h2⟩ := hpp7.2 i p hp; ⟨u, h1, kp10 _ _ (e9 _ _ (e8 _ _ h2)) fun _ z => nomatch z⟩⟩
      refine ⟨_, rfl, _, rfl, _, rfl, _, rfl, _, rfl, b, x, t, by rw [tm], hb10, TM.ex (mask_le _ _), fun su sws ss H11 s11 su0 hsu hsws hss hsl => ?_⟩
      have TM11 := (TM.ex s11.2).ex (mask_le _ _)
      have hT11 := tab_step t10.1 hb10 s11
      refine ⟨x, pl, su, t, pws, sws, ss, rfl, TM11, s11.at npl hplA, by rw [tps]; exact hppA.step hb10 s11, hsu, hsws, hss, hsl, fun H12 e12 => ⟨true, rfl, iteF ?_⟩⟩
      exact ⟨_, _, _, _, _, _, _, _, _, rfl, s11.1.ex e12, tab_ex hT11 e12⟩
    · rintro σ' H2 ⟨o2, o3, o4, o5, o6, o7, o8, o9, o10, rfl, hb, hT2⟩
      exact s_ret ev_c fun H3 _ => k H3
end
end K28
end
section
set_option Elab.async false
set_option linter.all false
set_option maxRecDepth 100000
set_option maxHeartbeats 4000000
namespace K28
local macro_rules | `(tactic| walk_at "pos") => `(tactic| (show (0 : Int) < _; first | decide | omega))
open PySem PySem.Spec PyProof.Rows L2 Lf 
open Evl
local macro_rules | `(tactic| walk_at "lk") => `(tactic| (simp (disch := decide +kernel) only [lk_hit, lk_miss, lk_nil]))
local macro_rules | `(tactic| walk_at "pf") => `(tactic| (simp (disch := decide +kernel) only [pf_hit, pf_miss, pf_nil]))
theorem all_mk {l : PySem.W.OpenLaw} {w : World} {K : PySem.W.Frag} {h : Heap} {mg : Str → Option Value} {fa f_number_of f_text_of f_tuple_of f_list_of f_is_within f_is_size f_is_plan cT pT f_rises f_pairs_of f_pair_of f_near_lists f_least_free f_places_of f_place_of f_lw_bag f_lw_take f_lw_pairs f_lw_near f_lw_clash f_lw_slots f_lw_numbers f_lw_speeches f_lw_right f_Web__init f_Web_many f_Web_slots f_Web_clashes f_Web_touches kD_Terms__init f_Terms__init f_Terms_many f_Terms_width f_law CWeb CTerms : Addr} (X : K.In h) (G : h.Ns mainGlobals mg) (hfa : mg "law" = some (.ref fa))
    {oc_number_of kV_number_of dc_number_of pm_number_of cd_number_of ct_number_of oc_text_of kV_text_of dc_text_of pm_text_of cd_text_of ct_text_of oc_tuple_of kV_tuple_of dc_tuple_of pm_tuple_of cd_tuple_of ct_tuple_of oc_list_of kV_list_of dc_list_of pm_list_of cd_list_of ct_list_of oc_is_within kV_is_within dc_is_within pm_is_within cd_is_within ct_is_within oc_is_size kV_is_size dc_is_size pm_is_size cd_is_size ct_is_size oc_is_plan kV_is_plan dc_is_plan pm_is_plan ct_is_plan oc_cT oc_rises kV_rises dc_rises pm_rises cd_rises ct_rises oc_pairs_of kV_pairs_of dc_pairs_of pm_pairs_of cd_pairs_of ct_pairs_of oc_pair_of kV_pair_of dc_pair_of pm_pair_of cd_pair_of ct_pair_of oc_near_lists kV_near_lists dc_near_lists pm_near_lists cd_near_lists ct_near_lists oc_least_free kV_least_free dc_least_free pm_least_free cd_least_free ct_least_free oc_places_of kV_places_of dc_places_of pm_places_of cd_places_of ct_places_of oc_place_of kV_place_of dc_place_of pm_place_of cd_place_of ct_place_of oc_lw_bag kV_lw_bag dc_lw_bag pm_lw_bag cd_lw_bag ct_lw_bag oc_lw_take kV_lw_take dc_lw_take pm_lw_take cd_lw_take ct_lw_take oc_lw_pairs kV_lw_pairs dc_lw_pairs pm_lw_pairs cd_lw_pairs ct_lw_pairs oc_lw_near kV_lw_near dc_lw_near pm_lw_near cd_lw_near ct_lw_near oc_lw_clash kV_lw_clash dc_lw_clash pm_lw_clash cd_lw_clash ct_lw_clash oc_lw_slots kV_lw_slots dc_lw_slots pm_lw_slots cd_lw_slots ct_lw_slots oc_lw_numbers kV_lw_numbers dc_lw_numbers pm_lw_numbers cd_lw_numbers ct_lw_numbers oc_lw_speeches kV_lw_speeches dc_lw_speeches pm_lw_speeches cd_lw_speeches ct_lw_speeches oc_lw_right kV_lw_right dc_lw_right pm_lw_right cd_lw_right ct_lw_right oc_Web__init kV_Web__init dc_Web__init pm_Web__init cd_Web__init ct_Web__init oc_Web_many kV_Web_many dc_Web_many pm_Web_many cd_Web_many ct_Web_many oc_Web_slots kV_Web_slots dc_Web_slots pm_Web_slots cd_Web_slots ct_Web_slots oc_Web_clashes kV_Web_clashes dc_Web_clashes pm_Web_clashes cd_Web_clashes ct_Web_clashes oc_Web_touches kV_Web_touches dc_Web_touches pm_Web_touches cd_Web_touches ct_Web_touches oc_Terms__init dc_Terms__init pm_Terms__init cd_Terms__init ct_Terms__init oc_Terms_many kV_Terms_many dc_Terms_many pm_Terms_many cd_Terms_many ct_Terms_many oc_Terms_width kV_Terms_width dc_Terms_width pm_Terms_width cd_Terms_width ct_Terms_width oc_law kV_law dc_law pm_law cd_law ct_law : Value} {od_number_of an_number_of od_text_of an_text_of od_tuple_of an_tuple_of od_list_of an_list_of od_is_within an_is_within od_is_size an_is_size od_is_plan an_is_plan od_cT od_rises an_rises od_pairs_of an_pairs_of od_pair_of an_pair_of od_near_lists an_near_lists od_least_free an_least_free od_places_of an_places_of od_place_of an_place_of od_lw_bag an_lw_bag od_lw_take an_lw_take od_lw_pairs an_lw_pairs od_lw_near an_lw_near od_lw_clash an_lw_clash od_lw_slots an_lw_slots od_lw_numbers an_lw_numbers od_lw_speeches an_lw_speeches od_lw_right an_lw_right od_Web__init an_Web__init od_Web_many an_Web_many od_Web_slots an_Web_slots od_Web_clashes an_Web_clashes od_Web_touches an_Web_touches od_Terms__init an_Terms__init od_Terms_many an_Terms_many od_Terms_width an_Terms_width od_law an_law : Option Addr} {sl_number_of sl_text_of sl_tuple_of sl_list_of sl_is_within sl_is_size sl_is_plan sl_cT sl_rises sl_pairs_of sl_pair_of sl_near_lists sl_least_free sl_places_of sl_place_of sl_lw_bag sl_lw_take sl_lw_pairs sl_lw_near sl_lw_clash sl_lw_slots sl_lw_numbers sl_lw_speeches sl_lw_right sl_Web__init sl_Web_many sl_Web_slots sl_Web_clashes sl_Web_touches sl_Terms__init sl_Terms_many sl_Terms_width sl_law : Array (Option Value)} {vT : Array Value}
    (a_number_of : PySem.W.nsIn K mainGlobals "number_of" = some (some (.ref f_number_of)))
    (l_number_of : K.lookup f_number_of = some ⟨oc_number_of, od_number_of, .func (PySem.W.fnOf "number_of" "number_of" (defArgs s_number_of) (defBody s_number_of) (defScope s_number_of) .none kV_number_of dc_number_of pm_number_of an_number_of cd_number_of ct_number_of), sl_number_of⟩)
    (cdi_number_of : PySem.W.codeIn K cd_number_of "number_of" = true)
    (k_number_of : PySem.W.keepIn K (.ref f_number_of) = true)
    (a_text_of : PySem.W.nsIn K mainGlobals "text_of" = some (some (.ref f_text_of)))
    (l_text_of : K.lookup f_text_of = some ⟨oc_text_of, od_text_of, .func (PySem.W.fnOf "text_of" "text_of" (defArgs s_text_of) (defBody s_text_of) (defScope s_text_of) .none kV_text_of dc_text_of pm_text_of an_text_of cd_text_of ct_text_of), sl_text_of⟩)
    (cdi_text_of : PySem.W.codeIn K cd_text_of "text_of" = true)
    (k_text_of : PySem.W.keepIn K (.ref f_text_of) = true)
    (a_tuple_of : PySem.W.nsIn K mainGlobals "tuple_of" = some (some (.ref f_tuple_of)))
    (l_tuple_of : K.lookup f_tuple_of = some ⟨oc_tuple_of, od_tuple_of, .func (PySem.W.fnOf "tuple_of" "tuple_of" (defArgs s_tuple_of) (defBody s_tuple_of) (defScope s_tuple_of) .none kV_tuple_of dc_tuple_of pm_tuple_of an_tuple_of cd_tuple_of ct_tuple_of), sl_tuple_of⟩)
    (cdi_tuple_of : PySem.W.codeIn K cd_tuple_of "tuple_of" = true)
    (k_tuple_of : PySem.W.keepIn K (.ref f_tuple_of) = true)
    (a_list_of : PySem.W.nsIn K mainGlobals "list_of" = some (some (.ref f_list_of)))
    (l_list_of : K.lookup f_list_of = some ⟨oc_list_of, od_list_of, .func (PySem.W.fnOf "list_of" "list_of" (defArgs s_list_of) (defBody s_list_of) (defScope s_list_of) .none kV_list_of dc_list_of pm_list_of an_list_of cd_list_of ct_list_of), sl_list_of⟩)
    (cdi_list_of : PySem.W.codeIn K cd_list_of "list_of" = true)
    (k_list_of : PySem.W.keepIn K (.ref f_list_of) = true)
    (a_is_within : PySem.W.nsIn K mainGlobals "is_within" = some (some (.ref f_is_within)))
    (l_is_within : K.lookup f_is_within = some ⟨oc_is_within, od_is_within, .func (PySem.W.fnOf "is_within" "is_within" (defArgs s_is_within) (defBody s_is_within) (defScope s_is_within) .none kV_is_within dc_is_within pm_is_within an_is_within cd_is_within ct_is_within), sl_is_within⟩)
    (cdi_is_within : PySem.W.codeIn K cd_is_within "is_within" = true)
    (k_is_within : PySem.W.keepIn K (.ref f_is_within) = true)
    (a_is_size : PySem.W.nsIn K mainGlobals "is_size" = some (some (.ref f_is_size)))
    (l_is_size : K.lookup f_is_size = some ⟨oc_is_size, od_is_size, .func (PySem.W.fnOf "is_size" "is_size" (defArgs s_is_size) (defBody s_is_size) (defScope s_is_size) .none kV_is_size dc_is_size pm_is_size an_is_size cd_is_size ct_is_size), sl_is_size⟩)
    (cdi_is_size : PySem.W.codeIn K cd_is_size "is_size" = true)
    (k_is_size : PySem.W.keepIn K (.ref f_is_size) = true)
    (a_is_plan : PySem.W.nsIn K mainGlobals "is_plan" = some (some (.ref f_is_plan)))
    (l_is_plan : K.lookup f_is_plan = some ⟨oc_is_plan, od_is_plan, .func (PySem.W.fnOf "is_plan" "is_plan" (defArgs s_is_plan) (defBody s_is_plan) (defScope s_is_plan) .none kV_is_plan dc_is_plan pm_is_plan an_is_plan (.ref cT) ct_is_plan), sl_is_plan⟩)
    (cdi_is_plan : PySem.W.codeIn K (.ref cT) "is_plan" = true)
    (k_is_plan : PySem.W.keepIn K (.ref f_is_plan) = true)
    (l_cT : K.lookup cT = some ⟨oc_cT, od_cT, .fields vT, sl_cT⟩)
    (v_cT : vT[11]? = some (.ref pT))
    (n_cT : K.lookup pT = none)
    (a_rises : PySem.W.nsIn K mainGlobals "rises" = some (some (.ref f_rises)))
    (l_rises : K.lookup f_rises = some ⟨oc_rises, od_rises, .func (PySem.W.fnOf "rises" "rises" (defArgs s_rises) (defBody s_rises) (defScope s_rises) .none kV_rises dc_rises pm_rises an_rises cd_rises ct_rises), sl_rises⟩)
    (cdi_rises : PySem.W.codeIn K cd_rises "rises" = true)
    (k_rises : PySem.W.keepIn K (.ref f_rises) = true)
    (a_pairs_of : PySem.W.nsIn K mainGlobals "pairs_of" = some (some (.ref f_pairs_of)))
    (l_pairs_of : K.lookup f_pairs_of = some ⟨oc_pairs_of, od_pairs_of, .func (PySem.W.fnOf "pairs_of" "pairs_of" (defArgs s_pairs_of) (defBody s_pairs_of) (defScope s_pairs_of) .none kV_pairs_of dc_pairs_of pm_pairs_of an_pairs_of cd_pairs_of ct_pairs_of), sl_pairs_of⟩)
    (cdi_pairs_of : PySem.W.codeIn K cd_pairs_of "pairs_of" = true)
    (k_pairs_of : PySem.W.keepIn K (.ref f_pairs_of) = true)
    (a_pair_of : PySem.W.nsIn K mainGlobals "pair_of" = some (some (.ref f_pair_of)))
    (l_pair_of : K.lookup f_pair_of = some ⟨oc_pair_of, od_pair_of, .func (PySem.W.fnOf "pair_of" "pair_of" (defArgs s_pair_of) (defBody s_pair_of) (defScope s_pair_of) .none kV_pair_of dc_pair_of pm_pair_of an_pair_of cd_pair_of ct_pair_of), sl_pair_of⟩)
    (cdi_pair_of : PySem.W.codeIn K cd_pair_of "pair_of" = true)
    (k_pair_of : PySem.W.keepIn K (.ref f_pair_of) = true)
    (a_near_lists : PySem.W.nsIn K mainGlobals "near_lists" = some (some (.ref f_near_lists)))
    (l_near_lists : K.lookup f_near_lists = some ⟨oc_near_lists, od_near_lists, .func (PySem.W.fnOf "near_lists" "near_lists" (defArgs s_near_lists) (defBody s_near_lists) (defScope s_near_lists) .none kV_near_lists dc_near_lists pm_near_lists an_near_lists cd_near_lists ct_near_lists), sl_near_lists⟩)
    (cdi_near_lists : PySem.W.codeIn K cd_near_lists "near_lists" = true)
    (k_near_lists : PySem.W.keepIn K (.ref f_near_lists) = true)
    (a_least_free : PySem.W.nsIn K mainGlobals "least_free" = some (some (.ref f_least_free)))
    (l_least_free : K.lookup f_least_free = some ⟨oc_least_free, od_least_free, .func (PySem.W.fnOf "least_free" "least_free" (defArgs s_least_free) (defBody s_least_free) (defScope s_least_free) .none kV_least_free dc_least_free pm_least_free an_least_free cd_least_free ct_least_free), sl_least_free⟩)
    (cdi_least_free : PySem.W.codeIn K cd_least_free "least_free" = true)
    (k_least_free : PySem.W.keepIn K (.ref f_least_free) = true)
    (a_places_of : PySem.W.nsIn K mainGlobals "places_of" = some (some (.ref f_places_of)))
    (l_places_of : K.lookup f_places_of = some ⟨oc_places_of, od_places_of, .func (PySem.W.fnOf "places_of" "places_of" (defArgs s_places_of) (defBody s_places_of) (defScope s_places_of) .none kV_places_of dc_places_of pm_places_of an_places_of cd_places_of ct_places_of), sl_places_of⟩)
    (cdi_places_of : PySem.W.codeIn K cd_places_of "places_of" = true)
    (k_places_of : PySem.W.keepIn K (.ref f_places_of) = true)
    (a_place_of : PySem.W.nsIn K mainGlobals "place_of" = some (some (.ref f_place_of)))
    (l_place_of : K.lookup f_place_of = some ⟨oc_place_of, od_place_of, .func (PySem.W.fnOf "place_of" "place_of" (defArgs s_place_of) (defBody s_place_of) (defScope s_place_of) .none kV_place_of dc_place_of pm_place_of an_place_of cd_place_of ct_place_of), sl_place_of⟩)
    (cdi_place_of : PySem.W.codeIn K cd_place_of "place_of" = true)
    (k_place_of : PySem.W.keepIn K (.ref f_place_of) = true)
    (a_lw_bag : PySem.W.nsIn K mainGlobals "_law_bag" = some (some (.ref f_lw_bag)))
    (l_lw_bag : K.lookup f_lw_bag = some ⟨oc_lw_bag, od_lw_bag, .func (PySem.W.fnOf "_law_bag" "_law_bag" (defArgs s_lw_bag) (defBody s_lw_bag) (defScope s_lw_bag) .none kV_lw_bag dc_lw_bag pm_lw_bag an_lw_bag cd_lw_bag ct_lw_bag), sl_lw_bag⟩)
    (cdi_lw_bag : PySem.W.codeIn K cd_lw_bag "_law_bag" = true)
    (k_lw_bag : PySem.W.keepIn K (.ref f_lw_bag) = true)
    (a_lw_take : PySem.W.nsIn K mainGlobals "_law_take" = some (some (.ref f_lw_take)))
    (l_lw_take : K.lookup f_lw_take = some ⟨oc_lw_take, od_lw_take, .func (PySem.W.fnOf "_law_take" "_law_take" (defArgs s_lw_take) (defBody s_lw_take) (defScope s_lw_take) .none kV_lw_take dc_lw_take pm_lw_take an_lw_take cd_lw_take ct_lw_take), sl_lw_take⟩)
    (cdi_lw_take : PySem.W.codeIn K cd_lw_take "_law_take" = true)
    (k_lw_take : PySem.W.keepIn K (.ref f_lw_take) = true)
    (a_lw_pairs : PySem.W.nsIn K mainGlobals "_law_pairs" = some (some (.ref f_lw_pairs)))
    (l_lw_pairs : K.lookup f_lw_pairs = some ⟨oc_lw_pairs, od_lw_pairs, .func (PySem.W.fnOf "_law_pairs" "_law_pairs" (defArgs s_lw_pairs) (defBody s_lw_pairs) (defScope s_lw_pairs) .none kV_lw_pairs dc_lw_pairs pm_lw_pairs an_lw_pairs cd_lw_pairs ct_lw_pairs), sl_lw_pairs⟩)
    (cdi_lw_pairs : PySem.W.codeIn K cd_lw_pairs "_law_pairs" = true)
    (k_lw_pairs : PySem.W.keepIn K (.ref f_lw_pairs) = true)
    (a_lw_near : PySem.W.nsIn K mainGlobals "_law_near" = some (some (.ref f_lw_near)))
    (l_lw_near : K.lookup f_lw_near = some ⟨oc_lw_near, od_lw_near, .func (PySem.W.fnOf "_law_near" "_law_near" (defArgs s_lw_near) (defBody s_lw_near) (defScope s_lw_near) .none kV_lw_near dc_lw_near pm_lw_near an_lw_near cd_lw_near ct_lw_near), sl_lw_near⟩)
    (cdi_lw_near : PySem.W.codeIn K cd_lw_near "_law_near" = true)
    (k_lw_near : PySem.W.keepIn K (.ref f_lw_near) = true)
    (a_lw_clash : PySem.W.nsIn K mainGlobals "_law_clash" = some (some (.ref f_lw_clash)))
    (l_lw_clash : K.lookup f_lw_clash = some ⟨oc_lw_clash, od_lw_clash, .func (PySem.W.fnOf "_law_clash" "_law_clash" (defArgs s_lw_clash) (defBody s_lw_clash) (defScope s_lw_clash) .none kV_lw_clash dc_lw_clash pm_lw_clash an_lw_clash cd_lw_clash ct_lw_clash), sl_lw_clash⟩)
    (cdi_lw_clash : PySem.W.codeIn K cd_lw_clash "_law_clash" = true)
    (k_lw_clash : PySem.W.keepIn K (.ref f_lw_clash) = true)
    (a_lw_slots : PySem.W.nsIn K mainGlobals "_law_slots" = some (some (.ref f_lw_slots)))
    (l_lw_slots : K.lookup f_lw_slots = some ⟨oc_lw_slots, od_lw_slots, .func (PySem.W.fnOf "_law_slots" "_law_slots" (defArgs s_lw_slots) (defBody s_lw_slots) (defScope s_lw_slots) .none kV_lw_slots dc_lw_slots pm_lw_slots an_lw_slots cd_lw_slots ct_lw_slots), sl_lw_slots⟩)
    (cdi_lw_slots : PySem.W.codeIn K cd_lw_slots "_law_slots" = true)
    (k_lw_slots : PySem.W.keepIn K (.ref f_lw_slots) = true)
    (a_lw_numbers : PySem.W.nsIn K mainGlobals "_law_numbers" = some (some (.ref f_lw_numbers)))
    (l_lw_numbers : K.lookup f_lw_numbers = some ⟨oc_lw_numbers, od_lw_numbers, .func (PySem.W.fnOf "_law_numbers" "_law_numbers" (defArgs s_lw_numbers) (defBody s_lw_numbers) (defScope s_lw_numbers) .none kV_lw_numbers dc_lw_numbers pm_lw_numbers an_lw_numbers cd_lw_numbers ct_lw_numbers), sl_lw_numbers⟩)
    (cdi_lw_numbers : PySem.W.codeIn K cd_lw_numbers "_law_numbers" = true)
    (k_lw_numbers : PySem.W.keepIn K (.ref f_lw_numbers) = true)
    (a_lw_speeches : PySem.W.nsIn K mainGlobals "_law_speeches" = some (some (.ref f_lw_speeches)))
    (l_lw_speeches : K.lookup f_lw_speeches = some ⟨oc_lw_speeches, od_lw_speeches, .func (PySem.W.fnOf "_law_speeches" "_law_speeches" (defArgs s_lw_speeches) (defBody s_lw_speeches) (defScope s_lw_speeches) .none kV_lw_speeches dc_lw_speeches pm_lw_speeches an_lw_speeches cd_lw_speeches ct_lw_speeches), sl_lw_speeches⟩)
    (cdi_lw_speeches : PySem.W.codeIn K cd_lw_speeches "_law_speeches" = true)
    (k_lw_speeches : PySem.W.keepIn K (.ref f_lw_speeches) = true)
    (a_lw_right : PySem.W.nsIn K mainGlobals "_law_right" = some (some (.ref f_lw_right)))
    (l_lw_right : K.lookup f_lw_right = some ⟨oc_lw_right, od_lw_right, .func (PySem.W.fnOf "_law_right" "_law_right" (defArgs s_lw_right) (defBody s_lw_right) (defScope s_lw_right) .none kV_lw_right dc_lw_right pm_lw_right an_lw_right cd_lw_right ct_lw_right), sl_lw_right⟩)
    (cdi_lw_right : PySem.W.codeIn K cd_lw_right "_law_right" = true)
    (k_lw_right : PySem.W.keepIn K (.ref f_lw_right) = true)
    (aC_CWeb : PySem.W.nsIn K mainGlobals "Web" = some (some (.ref CWeb)))
    (pg_CWeb : PySem.W.plainGet K CWeb Str.empty = true)
    (hd_CWeb : PySem.W.hasDictIn K CWeb = true)
    (po_CWeb : PySem.W.plainOver K CWeb = true)
    (sa_CWeb : PySem.W.findIn K (.ref CWeb) "__setattr__" = some (some (.builtin "object.__setattr__")))
    (mk_CWeb : PySem.W.makesIn K CWeb = true)
    (kc_CWeb : PySem.W.keepIn K (.ref CWeb) = true)
    (n_CWeb_many : PySem.W.findIn K (.ref CWeb) "_many" = some none)
    (n_CWeb_pairs : PySem.W.findIn K (.ref CWeb) "_pairs" = some none)
    (n_CWeb_near : PySem.W.findIn K (.ref CWeb) "_near" = some none)
    (iha_CWeb : PySem.W.findIn K (.ref CWeb) "__class__" = some (some (.builtin "object.__class__")))
    (ihn_CWeb : PySem.W.specialIn K (.builtin "object.__class__") "__get__" = some (some (.builtin "getset_descriptor.__get__")))
    (ihtk_CWeb : PySem.W.takesIn K (.builtin "object.__class__") = some true)
    (ihm_CWeb : PySem.W.mroIn K CWeb (.type "object") = some true)
    (ime_CWeb : PySem.W.kitOne K (.ref CWeb) (.ref CWeb) = some true)
    (a_Web__init : PySem.W.findIn K (.ref CWeb) "__init__" = some (some (.ref f_Web__init)))
    (i_Web__init : PySem.W.isFn K (.ref f_Web__init) = true)
    (l_Web__init : K.lookup f_Web__init = some ⟨oc_Web__init, od_Web__init, .func (PySem.W.fnOf "__init__" "Web.__init__" (defArgs s_Web__init) (defBody s_Web__init) (defScope s_Web__init) .none kV_Web__init dc_Web__init pm_Web__init an_Web__init cd_Web__init ct_Web__init), sl_Web__init⟩)
    (cdi_Web__init : PySem.W.codeIn K cd_Web__init "Web.__init__" = true)
    (k_Web__init : PySem.W.keepIn K (.ref f_Web__init) = true)
    (a_Web_many : PySem.W.findIn K (.ref CWeb) "many" = some (some (.ref f_Web_many)))
    (i_Web_many : PySem.W.isFn K (.ref f_Web_many) = true)
    (l_Web_many : K.lookup f_Web_many = some ⟨oc_Web_many, od_Web_many, .func (PySem.W.fnOf "many" "Web.many" (defArgs s_Web_many) (defBody s_Web_many) (defScope s_Web_many) .none kV_Web_many dc_Web_many pm_Web_many an_Web_many cd_Web_many ct_Web_many), sl_Web_many⟩)
    (cdi_Web_many : PySem.W.codeIn K cd_Web_many "Web.many" = true)
    (k_Web_many : PySem.W.keepIn K (.ref f_Web_many) = true)
    (a_Web_slots : PySem.W.findIn K (.ref CWeb) "slots" = some (some (.ref f_Web_slots)))
    (i_Web_slots : PySem.W.isFn K (.ref f_Web_slots) = true)
    (l_Web_slots : K.lookup f_Web_slots = some ⟨oc_Web_slots, od_Web_slots, .func (PySem.W.fnOf "slots" "Web.slots" (defArgs s_Web_slots) (defBody s_Web_slots) (defScope s_Web_slots) .none kV_Web_slots dc_Web_slots pm_Web_slots an_Web_slots cd_Web_slots ct_Web_slots), sl_Web_slots⟩)
    (cdi_Web_slots : PySem.W.codeIn K cd_Web_slots "Web.slots" = true)
    (k_Web_slots : PySem.W.keepIn K (.ref f_Web_slots) = true)
    (a_Web_clashes : PySem.W.findIn K (.ref CWeb) "_clashes" = some (some (.ref f_Web_clashes)))
    (i_Web_clashes : PySem.W.isFn K (.ref f_Web_clashes) = true)
    (l_Web_clashes : K.lookup f_Web_clashes = some ⟨oc_Web_clashes, od_Web_clashes, .func (PySem.W.fnOf "_clashes" "Web._clashes" (defArgs s_Web_clashes) (defBody s_Web_clashes) (defScope s_Web_clashes) .none kV_Web_clashes dc_Web_clashes pm_Web_clashes an_Web_clashes cd_Web_clashes ct_Web_clashes), sl_Web_clashes⟩)
    (cdi_Web_clashes : PySem.W.codeIn K cd_Web_clashes "Web._clashes" = true)
    (k_Web_clashes : PySem.W.keepIn K (.ref f_Web_clashes) = true)
    (a_Web_touches : PySem.W.findIn K (.ref CWeb) "_touches" = some (some (.ref f_Web_touches)))
    (i_Web_touches : PySem.W.isFn K (.ref f_Web_touches) = true)
    (l_Web_touches : K.lookup f_Web_touches = some ⟨oc_Web_touches, od_Web_touches, .func (PySem.W.fnOf "_touches" "Web._touches" (defArgs s_Web_touches) (defBody s_Web_touches) (defScope s_Web_touches) .none kV_Web_touches dc_Web_touches pm_Web_touches an_Web_touches cd_Web_touches ct_Web_touches), sl_Web_touches⟩)
    (cdi_Web_touches : PySem.W.codeIn K cd_Web_touches "Web._touches" = true)
    (k_Web_touches : PySem.W.keepIn K (.ref f_Web_touches) = true)
    (aC_CTerms : PySem.W.nsIn K mainGlobals "Terms" = some (some (.ref CTerms)))
    (pg_CTerms : PySem.W.plainGet K CTerms Str.empty = true)
    (hd_CTerms : PySem.W.hasDictIn K CTerms = true)
    (po_CTerms : PySem.W.plainOver K CTerms = true)
    (sa_CTerms : PySem.W.findIn K (.ref CTerms) "__setattr__" = some (some (.builtin "object.__setattr__")))
    (mk_CTerms : PySem.W.makesIn K CTerms = true)
    (kc_CTerms : PySem.W.keepIn K (.ref CTerms) = true)
    (n_CTermsweb : PySem.W.findIn K (.ref CTerms) "web" = some none)
    (n_CTerms_slots_many : PySem.W.findIn K (.ref CTerms) "_slots_many" = some none)
    (n_CTerms_places : PySem.W.findIn K (.ref CTerms) "_places" = some none)
    (n_CTermsquiet : PySem.W.findIn K (.ref CTerms) "quiet" = some none)
    (n_CTermsdrift : PySem.W.findIn K (.ref CTerms) "drift" = some none)
    (n_CTermsjitter : PySem.W.findIn K (.ref CTerms) "jitter" = some none)
    (n_CTermsguard : PySem.W.findIn K (.ref CTerms) "guard" = some none)
    (n_CTermslisten : PySem.W.findIn K (.ref CTerms) "listen" = some none)
    (n_CTermsspeak : PySem.W.findIn K (.ref CTerms) "speak" = some none)
    (n_CTermsitem : PySem.W.findIn K (.ref CTerms) "item" = some none)
    (a_Terms__init : PySem.W.findIn K (.ref CTerms) "__init__" = some (some (.ref f_Terms__init)))
    (i_Terms__init : PySem.W.isFn K (.ref f_Terms__init) = true)
    (l_Terms__init : K.lookup f_Terms__init = some ⟨oc_Terms__init, od_Terms__init, .func (PySem.W.fnOf "__init__" "Terms.__init__" (defArgs s_Terms__init) (defBody s_Terms__init) (defScope s_Terms__init) .none (.ref kD_Terms__init) dc_Terms__init pm_Terms__init an_Terms__init cd_Terms__init ct_Terms__init), sl_Terms__init⟩)
    (cdi_Terms__init : PySem.W.codeIn K cd_Terms__init "Terms.__init__" = true)
    (k_Terms__init : PySem.W.keepIn K (.ref f_Terms__init) = true)
    {t_Terms__init_listen : Tok} (q_Terms__init_listen : PySem.W.nsIn K kD_Terms__init "listen" = some (some (.int (0) t_Terms__init_listen)))
    {t_Terms__init_speak : Tok} (q_Terms__init_speak : PySem.W.nsIn K kD_Terms__init "speak" = some (some (.int (0) t_Terms__init_speak)))
    {t_Terms__init_item : Tok} (q_Terms__init_item : PySem.W.nsIn K kD_Terms__init "item" = some (some (.int (0) t_Terms__init_item)))
    (a_Terms_many : PySem.W.findIn K (.ref CTerms) "many" = some (some (.ref f_Terms_many)))
    (i_Terms_many : PySem.W.isFn K (.ref f_Terms_many) = true)
    (l_Terms_many : K.lookup f_Terms_many = some ⟨oc_Terms_many, od_Terms_many, .func (PySem.W.fnOf "many" "Terms.many" (defArgs s_Terms_many) (defBody s_Terms_many) (defScope s_Terms_many) .none kV_Terms_many dc_Terms_many pm_Terms_many an_Terms_many cd_Terms_many ct_Terms_many), sl_Terms_many⟩)
    (cdi_Terms_many : PySem.W.codeIn K cd_Terms_many "Terms.many" = true)
    (k_Terms_many : PySem.W.keepIn K (.ref f_Terms_many) = true)
    (a_Terms_width : PySem.W.findIn K (.ref CTerms) "width" = some (some (.ref f_Terms_width)))
    (i_Terms_width : PySem.W.isFn K (.ref f_Terms_width) = true)
    (l_Terms_width : K.lookup f_Terms_width = some ⟨oc_Terms_width, od_Terms_width, .func (PySem.W.fnOf "width" "Terms.width" (defArgs s_Terms_width) (defBody s_Terms_width) (defScope s_Terms_width) .none kV_Terms_width dc_Terms_width pm_Terms_width an_Terms_width cd_Terms_width ct_Terms_width), sl_Terms_width⟩)
    (cdi_Terms_width : PySem.W.codeIn K cd_Terms_width "Terms.width" = true)
    (k_Terms_width : PySem.W.keepIn K (.ref f_Terms_width) = true)
    (z_abs : PySem.W.nsIn K mainGlobals "abs" = some none)
    (z_all : PySem.W.nsIn K mainGlobals "all" = some none)
    (z_any : PySem.W.nsIn K mainGlobals "any" = some none)
    (z_bool : PySem.W.nsIn K mainGlobals "bool" = some none)
    (z_enumerate : PySem.W.nsIn K mainGlobals "enumerate" = some none)
    (z_int : PySem.W.nsIn K mainGlobals "int" = some none)
    (z_isinstance : PySem.W.nsIn K mainGlobals "isinstance" = some none)
    (z_len : PySem.W.nsIn K mainGlobals "len" = some none)
    (z_list : PySem.W.nsIn K mainGlobals "list" = some none)
    (z_max : PySem.W.nsIn K mainGlobals "max" = some none)
    (z_range : PySem.W.nsIn K mainGlobals "range" = some none)
    (z_sorted : PySem.W.nsIn K mainGlobals "sorted" = some none)
    (z_str : PySem.W.nsIn K mainGlobals "str" = some none)
    (z_tuple : PySem.W.nsIn K mainGlobals "tuple" = some none)
    (z_zip : PySem.W.nsIn K mainGlobals "zip" = some none)
    {t_LARGEST_SIZE : Tok} (z_LARGEST_SIZE : PySem.W.nsIn K mainGlobals "LARGEST_SIZE" = some (some (.int (1000000000) t_LARGEST_SIZE)))
    {t_LONGEST_PLAN : Tok} (z_LONGEST_PLAN : PySem.W.nsIn K mainGlobals "LONGEST_PLAN" = some (some (.int (8) t_LONGEST_PLAN)))
    {t_FEWEST : Tok} (z_FEWEST : PySem.W.nsIn K mainGlobals "FEWEST" = some (some (.int (2) t_FEWEST)))
    {t_MOST : Tok} (z_MOST : PySem.W.nsIn K mainGlobals "MOST" = some (some (.int (10) t_MOST)))
    {t_TURN_UNITS : Tok} (z_TURN_UNITS : PySem.W.nsIn K mainGlobals "TURN_UNITS" = some (some (.int (1000000) t_TURN_UNITS)))
    {t_MOST_QUIET : Tok} (z_MOST_QUIET : PySem.W.nsIn K mainGlobals "MOST_QUIET" = some (some (.int (20) t_MOST_QUIET)))
    {t_PLACE_PARTS : Tok} (z_PLACE_PARTS : PySem.W.nsIn K mainGlobals "PLACE_PARTS" = some (some (.int (5) t_PLACE_PARTS)))
    (a_law : PySem.W.nsIn K mainGlobals "law" = some (some (.ref f_law)))
    (l_law : K.lookup f_law = some ⟨oc_law, od_law, .func (PySem.W.fnOf "law" "law" (defArgs s_law) (defBody s_law) (defScope s_law) .none kV_law dc_law pm_law an_law cd_law ct_law), sl_law⟩)
    (cdi_law : PySem.W.codeIn K cd_law "law" = true)
    (k_law : PySem.W.keepIn K (.ref f_law) = true)
    : ∃ (fd : FuncData) (fT cO p0 : Addr) (oT oC : Obj) (fdT : FuncData) (v0 : Array Value), mg "is_plan" = some (.ref fT) ∧ K.lookup fT = some oT ∧ oT.data = .func fdT ∧ fdT.code = .ref cO ∧ K.lookup cO = some oC ∧ oC.data = .fields v0 ∧ v0[11]? = some (.ref p0) ∧ K.lookup p0 = none ∧
      (∀ (s : Shared) (v : Value), BindsTo s fd ⟨[v], []⟩ [("_law_script", v)]) ∧ ∀ base : Heap, K.In base → base.Ns mainGlobals mg → GxR.TabB base mg cO p0 → Fn l.prog w K mg base CX0 12 fa fd ["_law_script"] (spLawT K p0) := by
  have e := hfa.symm.trans (PySem.W.mg_of X G a_law)
  cases e
  have F_number_of := fun_mk (st := s_number_of) l_number_of cdi_number_of k_number_of
  have b_number_of := F_number_of.binds (ps := ["thing"]) fun _ _ _ _ _ _ us hl => match us, hl with | [_], _ => rfl
  have F_text_of := fun_mk (st := s_text_of) l_text_of cdi_text_of k_text_of
  have b_text_of := F_text_of.binds (ps := ["thing"]) fun _ _ _ _ _ _ us hl => match us, hl with | [_], _ => rfl
  have F_tuple_of := fun_mk (st := s_tuple_of) l_tuple_of cdi_tuple_of k_tuple_of
  have b_tuple_of := F_tuple_of.binds (ps := ["thing"]) fun _ _ _ _ _ _ us hl => match us, hl with | [_], _ => rfl
  have F_list_of := fun_mk (st := s_list_of) l_list_of cdi_list_of k_list_of
  have b_list_of := F_list_of.binds (ps := ["thing"]) fun _ _ _ _ _ _ us hl => match us, hl with | [_], _ => rfl
  have F_is_within := fun_mk (st := s_is_within) l_is_within cdi_is_within k_is_within
  have b_is_within := F_is_within.binds (ps := ["thing", "least", "most"]) fun _ _ _ _ _ _ us hl => match us, hl with | [_, _, _], _ => rfl
  have F_is_size := fun_mk (st := s_is_size) l_is_size cdi_is_size k_is_size
  have b_is_size := F_is_size.binds (ps := ["thing"]) fun _ _ _ _ _ _ us hl => match us, hl with | [_], _ => rfl
  have F_is_plan := func_mk (st := s_is_plan) l_is_plan cdi_is_plan k_is_plan
  have F0_is_plan := fun_mk (st := s_is_plan) l_is_plan cdi_is_plan k_is_plan
  have b_is_plan := F0_is_plan.binds (ps := ["thing"]) fun _ _ _ _ _ _ us hl => match us, hl with | [_], _ => rfl
  have F_rises := fun_mk (st := s_rises) l_rises cdi_rises k_rises
  have b_rises := F_rises.binds (ps := ["things"]) fun _ _ _ _ _ _ us hl => match us, hl with | [_], _ => rfl
  have F_pairs_of := fun_mk (st := s_pairs_of) l_pairs_of cdi_pairs_of k_pairs_of
  have b_pairs_of := F_pairs_of.binds (ps := ["many", "thing"]) fun _ _ _ _ _ _ us hl => match us, hl with | [_, _], _ => rfl
  have F_pair_of := fun_mk (st := s_pair_of) l_pair_of cdi_pair_of k_pair_of
  have b_pair_of := F_pair_of.binds (ps := ["many", "thing"]) fun _ _ _ _ _ _ us hl => match us, hl with | [_, _], _ => rfl
  have F_near_lists := fun_mk (st := s_near_lists) l_near_lists cdi_near_lists k_near_lists
  have b_near_lists := F_near_lists.binds (ps := ["many", "pairs"]) fun _ _ _ _ _ _ us hl => match us, hl with | [_, _], _ => rfl
  have F_least_free := fun_mk (st := s_least_free) l_least_free cdi_least_free k_least_free
  have b_least_free := F_least_free.binds (ps := ["barred"]) fun _ _ _ _ _ _ us hl => match us, hl with | [_], _ => rfl
  have F_places_of := fun_mk (st := s_places_of) l_places_of cdi_places_of k_places_of
  have b_places_of := F_places_of.binds (ps := ["many", "thing", "drift"]) fun _ _ _ _ _ _ us hl => match us, hl with | [_, _, _], _ => rfl
  have F_place_of := fun_mk (st := s_place_of) l_place_of cdi_place_of k_place_of
  have b_place_of := F_place_of.binds (ps := ["thing", "most"]) fun _ _ _ _ _ _ us hl => match us, hl with | [_, _], _ => rfl
  have F_lw_bag := fun_mk (st := s_lw_bag) l_lw_bag cdi_lw_bag k_lw_bag
  have b_lw_bag := F_lw_bag.binds (ps := ["_law_script"]) fun _ _ _ _ _ _ us hl => match us, hl with | [_], _ => rfl
  have F_lw_take := fun_mk (st := s_lw_take) l_lw_take cdi_lw_take k_lw_take
  have b_lw_take := F_lw_take.binds (ps := ["_law_bag_here", "_law_many"]) fun _ _ _ _ _ _ us hl => match us, hl with | [_, _], _ => rfl
  have F_lw_pairs := fun_mk (st := s_lw_pairs) l_lw_pairs cdi_lw_pairs k_lw_pairs
  have b_lw_pairs := F_lw_pairs.binds (ps := ["_law_bag_here", "_law_many"]) fun _ _ _ _ _ _ us hl => match us, hl with | [_, _], _ => rfl
  have F_lw_near := fun_mk (st := s_lw_near) l_lw_near cdi_lw_near k_lw_near
  have b_lw_near := F_lw_near.binds (ps := ["_law_pairs_here", "_law_place_here"]) fun _ _ _ _ _ _ us hl => match us, hl with | [_, _], _ => rfl
  have F_lw_clash := fun_mk (st := s_lw_clash) l_lw_clash cdi_lw_clash k_lw_clash
  have b_lw_clash := F_lw_clash.binds (ps := ["_law_pairs_here", "_law_one", "_law_other"]) fun _ _ _ _ _ _ us hl => match us, hl with | [_, _, _], _ => rfl
  have F_lw_slots := fun_mk (st := s_lw_slots) l_lw_slots cdi_lw_slots k_lw_slots
  have b_lw_slots := F_lw_slots.binds (ps := ["_law_pairs_here", "_law_many"]) fun _ _ _ _ _ _ us hl => match us, hl with | [_, _], _ => rfl
  have F_lw_numbers := fun_mk (st := s_lw_numbers) l_lw_numbers cdi_lw_numbers k_lw_numbers
  have b_lw_numbers := F_lw_numbers.binds (ps := ["_law_bag_here", "_law_pairs_here", "_law_many"]) fun _ _ _ _ _ _ us hl => match us, hl with | [_, _, _], _ => rfl
  have F_lw_speeches := fun_mk (st := s_lw_speeches) l_lw_speeches cdi_lw_speeches k_lw_speeches
  have b_lw_speeches := F_lw_speeches.binds (ps := ["_law_bag_here", "_law_terms", "_law_many"]) fun _ _ _ _ _ _ us hl => match us, hl with | [_, _, _], _ => rfl
  have F_lw_right := fun_mk (st := s_lw_right) l_lw_right cdi_lw_right k_lw_right
  have b_lw_right := F_lw_right.binds (ps := ["_law_terms", "_law_pairs_here", "_law_speeches_here"]) fun _ _ _ _ _ _ us hl => match us, hl with | [_, _, _], _ => rfl
  have F_Web__init := fun_mk (st := s_Web__init) l_Web__init cdi_Web__init k_Web__init
  have b_Web__init := F_Web__init.binds (ps := ["self", "many", "pairs"]) fun _ _ _ _ _ _ us hl => match us, hl with | [_, _, _], _ => rfl
  have F_Web_many := fun_mk (st := s_Web_many) l_Web_many cdi_Web_many k_Web_many
  have b_Web_many := F_Web_many.binds (ps := ["self"]) fun _ _ _ _ _ _ us hl => match us, hl with | [_], _ => rfl
  have F_Web_slots := fun_mk (st := s_Web_slots) l_Web_slots cdi_Web_slots k_Web_slots
  have b_Web_slots := F_Web_slots.binds (ps := ["self"]) fun _ _ _ _ _ _ us hl => match us, hl with | [_], _ => rfl
  have F_Web_clashes := fun_mk (st := s_Web_clashes) l_Web_clashes cdi_Web_clashes k_Web_clashes
  have b_Web_clashes := F_Web_clashes.binds (ps := ["self", "one", "other"]) fun _ _ _ _ _ _ us hl => match us, hl with | [_, _, _], _ => rfl
  have F_Web_touches := fun_mk (st := s_Web_touches) l_Web_touches cdi_Web_touches k_Web_touches
  have b_Web_touches := F_Web_touches.binds (ps := ["self", "place", "places"]) fun _ _ _ _ _ _ us hl => match us, hl with | [_, _, _], _ => rfl
  have F_Terms__init := fun_mk (st := s_Terms__init) l_Terms__init cdi_Terms__init k_Terms__init
  have FD_Terms__init : L2.FunD K "__init__" "Terms.__init__" (defArgs s_Terms__init) (defBody s_Terms__init) (defScope s_Terms__init) [] [("listen", .int (0)), ("speak", .int (0)), ("item", .int (0))] f_Terms__init _ := ⟨⟨_, _, _, _, _, _, _, _, _, _, rfl, l_Terms__init, cdi_Terms__init, .inl ⟨rfl, rfl⟩, .inr ⟨_, rfl, List.forall_mem_cons.mpr ⟨⟨_, q_Terms__init_listen, _, rfl⟩, List.forall_mem_cons.mpr ⟨⟨_, q_Terms__init_speak, _, rfl⟩, List.forall_mem_cons.mpr ⟨⟨_, q_Terms__init_item, _, rfl⟩, fun _ z => by cases z⟩⟩⟩⟩⟩, k_Terms__init⟩
  obtain ⟨_, kb_Terms__init⟩ := FD_Terms__init.kbinds0 (ps := ["self", "web", "places", "quiet", "drift", "jitter", "guard", "listen", "speak", "item"]) 3 ["quiet", "drift", "jitter", "guard"] [("listen", .int (0)), ("speak", .int (0)), ("item", .int (0))] (fun us mz zs => us ++ (zs ++ mz)) (by simp) (fun q hq => hq) (fun r1 r2 r3 => r1.append (r3.append r2)) (fun D doc pm an cdv ct us mv ws h1 h2 h3 => match us, mv, ws, h1, h2, h3 with | [_, _, _], [_, _, _], [_, _, _, _], _, _, _ => ⟨_, _, _, _, _, _, rfl, rfl, ⟨_, _, _, _, _, _, rfl, rfl, ⟨_, _, _, _, _, _, rfl, rfl, rfl⟩⟩⟩)
  have F_Terms_many := fun_mk (st := s_Terms_many) l_Terms_many cdi_Terms_many k_Terms_many
  have b_Terms_many := F_Terms_many.binds (ps := ["self"]) fun _ _ _ _ _ _ us hl => match us, hl with | [_], _ => rfl
  have F_Terms_width := fun_mk (st := s_Terms_width) l_Terms_width cdi_Terms_width k_Terms_width
  have b_Terms_width := F_Terms_width.binds (ps := ["self"]) fun _ _ _ _ _ _ us hl => match us, hl with | [_], _ => rfl
  have F_law := fun_mk (st := s_law) l_law cdi_law k_law
  refine ⟨PySem.W.fnOf "law" "law" (defArgs s_law) (defBody s_law) (defScope s_law) .none kV_law dc_law pm_law an_law cd_law ct_law, f_is_plan, cT, pT, _, _, _, vT, PySem.W.mg_of X G a_is_plan, l_is_plan, rfl, rfl, l_cT, rfl, v_cT, n_cT, fun s v => .of_eq rfl, fun base _ _ tb => ?_⟩
  have T : Top K mg base CWeb CTerms cT pT := {
    d_number_of := ⟨_, _, F_number_of, PySem.W.mg_of X G a_number_of, b_number_of⟩,
    d_text_of := ⟨_, _, F_text_of, PySem.W.mg_of X G a_text_of, b_text_of⟩,
    d_tuple_of := ⟨_, _, F_tuple_of, PySem.W.mg_of X G a_tuple_of, b_tuple_of⟩,
    d_list_of := ⟨_, _, F_list_of, PySem.W.mg_of X G a_list_of, b_list_of⟩,
    d_is_within := ⟨_, _, F_is_within, PySem.W.mg_of X G a_is_within, b_is_within⟩,
    d_is_size := ⟨_, _, F_is_size, PySem.W.mg_of X G a_is_size, b_is_size⟩,
    d_is_plan := ⟨_, _, F_is_plan, PySem.W.mg_of X G a_is_plan, b_is_plan⟩,
    d_rises := ⟨_, _, F_rises, PySem.W.mg_of X G a_rises, b_rises⟩,
    d_pairs_of := ⟨_, _, F_pairs_of, PySem.W.mg_of X G a_pairs_of, b_pairs_of⟩,
    d_pair_of := ⟨_, _, F_pair_of, PySem.W.mg_of X G a_pair_of, b_pair_of⟩,
    d_near_lists := ⟨_, _, F_near_lists, PySem.W.mg_of X G a_near_lists, b_near_lists⟩,
    d_least_free := ⟨_, _, F_least_free, PySem.W.mg_of X G a_least_free, b_least_free⟩,
    d_places_of := ⟨_, _, F_places_of, PySem.W.mg_of X G a_places_of, b_places_of⟩,
    d_place_of := ⟨_, _, F_place_of, PySem.W.mg_of X G a_place_of, b_place_of⟩,
    d_lw_bag := ⟨_, _, F_lw_bag, PySem.W.mg_of X G a_lw_bag, b_lw_bag⟩,
    d_lw_take := ⟨_, _, F_lw_take, PySem.W.mg_of X G a_lw_take, b_lw_take⟩,
    d_lw_pairs := ⟨_, _, F_lw_pairs, PySem.W.mg_of X G a_lw_pairs, b_lw_pairs⟩,
    d_lw_near := ⟨_, _, F_lw_near, PySem.W.mg_of X G a_lw_near, b_lw_near⟩,
    d_lw_clash := ⟨_, _, F_lw_clash, PySem.W.mg_of X G a_lw_clash, b_lw_clash⟩,
    d_lw_slots := ⟨_, _, F_lw_slots, PySem.W.mg_of X G a_lw_slots, b_lw_slots⟩,
    d_lw_numbers := ⟨_, _, F_lw_numbers, PySem.W.mg_of X G a_lw_numbers, b_lw_numbers⟩,
    d_lw_speeches := ⟨_, _, F_lw_speeches, PySem.W.mg_of X G a_lw_speeches, b_lw_speeches⟩,
    d_lw_right := ⟨_, _, F_lw_right, PySem.W.mg_of X G a_lw_right, b_lw_right⟩,
    cl_Web := ⟨pg_CWeb, hd_CWeb, po_CWeb, sa_CWeb⟩,
    hm_Web := PySem.W.mg_of X G aC_CWeb,
    mk_Web := fun f me => ⟨mk_CWeb, me.at_, me.fn, kc_CWeb⟩,
    a_Web_many := n_CWeb_many,
    a_Web_pairs := n_CWeb_pairs,
    a_Web_near := n_CWeb_near,
    i_Web := ⟨⟨pg_CWeb, hd_CWeb, po_CWeb, sa_CWeb⟩, iha_CWeb, ihn_CWeb, ihtk_CWeb, ihm_CWeb, ime_CWeb⟩,
    d_Web__init := ⟨_, _, F_Web__init, ⟨a_Web__init, i_Web__init, k_Web__init⟩, b_Web__init⟩,
    d_Web_many := ⟨_, _, F_Web_many, ⟨a_Web_many, i_Web_many, k_Web_many⟩, b_Web_many⟩,
    d_Web_slots := ⟨_, _, F_Web_slots, ⟨a_Web_slots, i_Web_slots, k_Web_slots⟩, b_Web_slots⟩,
    d_Web_clashes := ⟨_, _, F_Web_clashes, ⟨a_Web_clashes, i_Web_clashes, k_Web_clashes⟩, b_Web_clashes⟩,
    d_Web_touches := ⟨_, _, F_Web_touches, ⟨a_Web_touches, i_Web_touches, k_Web_touches⟩, b_Web_touches⟩,
    cl_Terms := ⟨pg_CTerms, hd_CTerms, po_CTerms, sa_CTerms⟩,
    hm_Terms := PySem.W.mg_of X G aC_CTerms,
    mk_Terms := fun f me => ⟨mk_CTerms, me.at_, me.fn, kc_CTerms⟩,
    a_Termsweb := n_CTermsweb,
    a_Terms_slots_many := n_CTerms_slots_many,
    a_Terms_places := n_CTerms_places,
    a_Termsquiet := n_CTermsquiet,
    a_Termsdrift := n_CTermsdrift,
    a_Termsjitter := n_CTermsjitter,
    a_Termsguard := n_CTermsguard,
    a_Termslisten := n_CTermslisten,
    a_Termsspeak := n_CTermsspeak,
    a_Termsitem := n_CTermsitem,
    d_Terms__init := ⟨_, _, _, F_Terms__init, ⟨a_Terms__init, i_Terms__init, k_Terms__init⟩, kb_Terms__init⟩,
    d_Terms_many := ⟨_, _, F_Terms_many, ⟨a_Terms_many, i_Terms_many, k_Terms_many⟩, b_Terms_many⟩,
    d_Terms_width := ⟨_, _, F_Terms_width, ⟨a_Terms_width, i_Terms_width, k_Terms_width⟩, b_Terms_width⟩,
    n_abs := PySem.W.mg_none_of X G z_abs,
    n_all := PySem.W.mg_none_of X G z_all,
    n_any := PySem.W.mg_none_of X G z_any,
    n_bool := PySem.W.mg_none_of X G z_bool,
    n_enumerate := PySem.W.mg_none_of X G z_enumerate,
    n_int := PySem.W.mg_none_of X G z_int,
    n_isinstance := PySem.W.mg_none_of X G z_isinstance,
    n_len := PySem.W.mg_none_of X G z_len,
    n_list := PySem.W.mg_none_of X G z_list,
    n_max := PySem.W.mg_none_of X G z_max,
    n_range := PySem.W.mg_none_of X G z_range,
    n_sorted := PySem.W.mg_none_of X G z_sorted,
    n_str := PySem.W.mg_none_of X G z_str,
    n_tuple := PySem.W.mg_none_of X G z_tuple,
    n_zip := PySem.W.mg_none_of X G z_zip,
    n_LARGEST_SIZE := ⟨_, PySem.W.mg_of X G z_LARGEST_SIZE, _, rfl⟩,
    n_LONGEST_PLAN := ⟨_, PySem.W.mg_of X G z_LONGEST_PLAN, _, rfl⟩,
    n_FEWEST := ⟨_, PySem.W.mg_of X G z_FEWEST, _, rfl⟩,
    n_MOST := ⟨_, PySem.W.mg_of X G z_MOST, _, rfl⟩,
    n_TURN_UNITS := ⟨_, PySem.W.mg_of X G z_TURN_UNITS, _, rfl⟩,
    n_MOST_QUIET := ⟨_, PySem.W.mg_of X G z_MOST_QUIET, _, rfl⟩,
    n_PLACE_PARTS := ⟨_, PySem.W.mg_of X G z_PLACE_PARTS, _, rfl⟩,
    tb := tb }
  exact f_law T F_law
end K28
open PySem PySem.W PyProof.Rows in
set_option maxRecDepth 100000 in
set_option maxHeartbeats 0 in
theorem PySem.Challenge.cw_listenfield_k28_whole_room_for_all_holds : PySem.Challenge.rw_listenfield_k28_whole_room_for_all.Holds := by
  w_on; o_law; k_head; (case hw => w_witness2)
  k_fill
  refine Lf.walkT (l := PySem.Challenge.rw_listenfield_k28_whole_room_for_all) (k := 12) (x := "_law_script") (sp := fun w pT => Lf.spLawT _ pT) "is_plan" rfl rfl ⟨rfl, by decide, by decide⟩ (by decide +kernel) (fun w h Y => PySem.W.kIn_of Y) ?F (fun _ _ _ a ns hl hT hS => ⟨a, ns, rfl, hT, hS, hl, fun _ => rfl⟩)
  case F =>
    intro w mg fa h KX G hmg
    refine' K28.all_mk KX G hmg ?a_number_of ?l_number_of ?cdi_number_of ?k_number_of ?a_text_of ?l_text_of ?cdi_text_of ?k_text_of ?a_tuple_of ?l_tuple_of ?cdi_tuple_of ?k_tuple_of ?a_list_of ?l_list_of ?cdi_list_of ?k_list_of ?a_is_within ?l_is_within ?cdi_is_within ?k_is_within ?a_is_size ?l_is_size ?cdi_is_size ?k_is_size ?a_is_plan ?l_is_plan ?cdi_is_plan ?k_is_plan ?l_cT ?v_cT ?n_cT ?a_rises ?l_rises ?cdi_rises ?k_rises ?a_pairs_of ?l_pairs_of ?cdi_pairs_of ?k_pairs_of ?a_pair_of ?l_pair_of ?cdi_pair_of ?k_pair_of ?a_near_lists ?l_near_lists ?cdi_near_lists ?k_near_lists ?a_least_free ?l_least_free ?cdi_least_free ?k_least_free ?a_places_of ?l_places_of ?cdi_places_of ?k_places_of ?a_place_of ?l_place_of ?cdi_place_of ?k_place_of ?a_lw_bag ?l_lw_bag ?cdi_lw_bag ?k_lw_bag ?a_lw_take ?l_lw_take ?cdi_lw_take ?k_lw_take ?a_lw_pairs ?l_lw_pairs ?cdi_lw_pairs ?k_lw_pairs ?a_lw_near ?l_lw_near ?cdi_lw_near ?k_lw_near ?a_lw_clash ?l_lw_clash ?cdi_lw_clash ?k_lw_clash ?a_lw_slots ?l_lw_slots ?cdi_lw_slots ?k_lw_slots ?a_lw_numbers ?l_lw_numbers ?cdi_lw_numbers ?k_lw_numbers ?a_lw_speeches ?l_lw_speeches ?cdi_lw_speeches ?k_lw_speeches ?a_lw_right ?l_lw_right ?cdi_lw_right ?k_lw_right ?aC_CWeb ?pg_CWeb ?hd_CWeb ?po_CWeb ?sa_CWeb ?mk_CWeb ?kc_CWeb ?n_CWeb_many ?n_CWeb_pairs ?n_CWeb_near ?iha_CWeb ?ihn_CWeb ?ihtk_CWeb ?ihm_CWeb ?ime_CWeb ?a_Web__init ?i_Web__init ?l_Web__init ?cdi_Web__init ?k_Web__init ?a_Web_many ?i_Web_many ?l_Web_many ?cdi_Web_many ?k_Web_many ?a_Web_slots ?i_Web_slots ?l_Web_slots ?cdi_Web_slots ?k_Web_slots ?a_Web_clashes ?i_Web_clashes ?l_Web_clashes ?cdi_Web_clashes ?k_Web_clashes ?a_Web_touches ?i_Web_touches ?l_Web_touches ?cdi_Web_touches ?k_Web_touches ?aC_CTerms ?pg_CTerms ?hd_CTerms ?po_CTerms ?sa_CTerms ?mk_CTerms ?kc_CTerms ?n_CTermsweb ?n_CTerms_slots_many ?n_CTerms_places ?n_CTermsquiet ?n_CTermsdrift ?n_CTermsjitter ?n_CTermsguard ?n_CTermslisten ?n_CTermsspeak ?n_CTermsitem ?a_Terms__init ?i_Terms__init ?l_Terms__init ?cdi_Terms__init ?k_Terms__init ?q_Terms__init_listen ?q_Terms__init_speak ?q_Terms__init_item ?a_Terms_many ?i_Terms_many ?l_Terms_many ?cdi_Terms_many ?k_Terms_many ?a_Terms_width ?i_Terms_width ?l_Terms_width ?cdi_Terms_width ?k_Terms_width ?z_abs ?z_all ?z_any ?z_bool ?z_enumerate ?z_int ?z_isinstance ?z_len ?z_list ?z_max ?z_range ?z_sorted ?z_str ?z_tuple ?z_zip ?z_LARGEST_SIZE ?z_LONGEST_PLAN ?z_FEWEST ?z_MOST ?z_TURN_UNITS ?z_MOST_QUIET ?z_PLACE_PARTS ?a_law ?l_law ?cdi_law ?k_law
    (case a_number_of => k_is)
    (case l_number_of => k_is)
    (case cdi_number_of => k_is)
    (case k_number_of => k_is)
    (case a_text_of => k_is)
    (case l_text_of => k_is)
    (case cdi_text_of => k_is)
    (case k_text_of => k_is)
    (case a_tuple_of => k_is)
    (case l_tuple_of => k_is)
    (case cdi_tuple_of => k_is)
    (case k_tuple_of => k_is)
    (case a_list_of => k_is)
    (case l_list_of => k_is)
    (case cdi_list_of => k_is)
    (case k_list_of => k_is)
    (case a_is_within => k_is)
    (case l_is_within => k_is)
    (case cdi_is_within => k_is)
    (case k_is_within => k_is)
    (case a_is_size => k_is)
    (case l_is_size => k_is)
    (case cdi_is_size => k_is)
    (case k_is_size => k_is)
    (case a_is_plan => k_is)
    (case l_is_plan => k_is)
    (case cdi_is_plan => k_is)
    (case k_is_plan => k_is)
    (case l_cT => k_is)
    (case v_cT => rfl)
    (case n_cT => rfl)
    (case a_rises => k_is)
    (case l_rises => k_is)
    (case cdi_rises => k_is)
    (case k_rises => k_is)
    (case a_pairs_of => k_is)
    (case l_pairs_of => k_is)
    (case cdi_pairs_of => k_is)
    (case k_pairs_of => k_is)
    (case a_pair_of => k_is)
    (case l_pair_of => k_is)
    (case cdi_pair_of => k_is)
    (case k_pair_of => k_is)
    (case a_near_lists => k_is)
    (case l_near_lists => k_is)
    (case cdi_near_lists => k_is)
    (case k_near_lists => k_is)
    (case a_least_free => k_is)
    (case l_least_free => k_is)
    (case cdi_least_free => k_is)
    (case k_least_free => k_is)
    (case a_places_of => k_is)
    (case l_places_of => k_is)
    (case cdi_places_of => k_is)
    (case k_places_of => k_is)
    (case a_place_of => k_is)
    (case l_place_of => k_is)
    (case cdi_place_of => k_is)
    (case k_place_of => k_is)
    (case a_lw_bag => k_is)
    (case l_lw_bag => k_is)
    (case cdi_lw_bag => k_is)
    (case k_lw_bag => k_is)
    (case a_lw_take => k_is)
    (case l_lw_take => k_is)
    (case cdi_lw_take => k_is)
    (case k_lw_take => k_is)
    (case a_lw_pairs => k_is)
    (case l_lw_pairs => k_is)
    (case cdi_lw_pairs => k_is)
    (case k_lw_pairs => k_is)
    (case a_lw_near => k_is)
    (case l_lw_near => k_is)
    (case cdi_lw_near => k_is)
    (case k_lw_near => k_is)
    (case a_lw_clash => k_is)
    (case l_lw_clash => k_is)
    (case cdi_lw_clash => k_is)
    (case k_lw_clash => k_is)
    (case a_lw_slots => k_is)
    (case l_lw_slots => k_is)
    (case cdi_lw_slots => k_is)
    (case k_lw_slots => k_is)
    (case a_lw_numbers => k_is)
    (case l_lw_numbers => k_is)
    (case cdi_lw_numbers => k_is)
    (case k_lw_numbers => k_is)
    (case a_lw_speeches => k_is)
    (case l_lw_speeches => k_is)
    (case cdi_lw_speeches => k_is)
    (case k_lw_speeches => k_is)
    (case a_lw_right => k_is)
    (case l_lw_right => k_is)
    (case cdi_lw_right => k_is)
    (case k_lw_right => k_is)
    (case aC_CWeb => k_is)
    (case pg_CWeb => k_is)
    (case hd_CWeb => k_is)
    (case po_CWeb => k_is)
    (case sa_CWeb => k_is)
    (case mk_CWeb => k_is)
    (case kc_CWeb => k_is)
    (case n_CWeb_many => k_is)
    (case n_CWeb_pairs => k_is)
    (case n_CWeb_near => k_is)
    (case iha_CWeb => k_is)
    (case ihn_CWeb => k_is)
    (case ihtk_CWeb => k_is)
    (case ihm_CWeb => k_is)
    (case ime_CWeb => exact if_pos (beq_self_eq_true _))
    (case a_Web__init => k_is)
    (case i_Web__init => k_is)
    (case l_Web__init => k_is)
    (case cdi_Web__init => k_is)
    (case k_Web__init => k_is)
    (case a_Web_many => k_is)
    (case i_Web_many => k_is)
    (case l_Web_many => k_is)
    (case cdi_Web_many => k_is)
    (case k_Web_many => k_is)
    (case a_Web_slots => k_is)
    (case i_Web_slots => k_is)
    (case l_Web_slots => k_is)
    (case cdi_Web_slots => k_is)
    (case k_Web_slots => k_is)
    (case a_Web_clashes => k_is)
    (case i_Web_clashes => k_is)
    (case l_Web_clashes => k_is)
    (case cdi_Web_clashes => k_is)
    (case k_Web_clashes => k_is)
    (case a_Web_touches => k_is)
    (case i_Web_touches => k_is)
    (case l_Web_touches => k_is)
    (case cdi_Web_touches => k_is)
    (case k_Web_touches => k_is)
    (case aC_CTerms => k_is)
    (case pg_CTerms => k_is)
    (case hd_CTerms => k_is)
    (case po_CTerms => k_is)
    (case sa_CTerms => k_is)
    (case mk_CTerms => k_is)
    (case kc_CTerms => k_is)
    (case n_CTermsweb => k_is)
    (case n_CTerms_slots_many => k_is)
    (case n_CTerms_places => k_is)
    (case n_CTermsquiet => k_is)
    (case n_CTermsdrift => k_is)
    (case n_CTermsjitter => k_is)
    (case n_CTermsguard => k_is)
    (case n_CTermslisten => k_is)
    (case n_CTermsspeak => k_is)
    (case n_CTermsitem => k_is)
    (case a_Terms__init => k_is)
    (case i_Terms__init => k_is)
    (case l_Terms__init => k_is)
    (case cdi_Terms__init => k_is)
    (case k_Terms__init => k_is)
    (case q_Terms__init_listen => k_is)
    (case q_Terms__init_speak => k_is)
    (case q_Terms__init_item => k_is)
    (case a_Terms_many => k_is)
    (case i_Terms_many => k_is)
    (case l_Terms_many => k_is)
    (case cdi_Terms_many => k_is)
    (case k_Terms_many => k_is)
    (case a_Terms_width => k_is)
    (case i_Terms_width => k_is)
    (case l_Terms_width => k_is)
    (case cdi_Terms_width => k_is)
    (case k_Terms_width => k_is)
    (case z_abs => k_is)
    (case z_all => k_is)
    (case z_any => k_is)
    (case z_bool => k_is)
    (case z_enumerate => k_is)
    (case z_int => k_is)
    (case z_isinstance => k_is)
    (case z_len => k_is)
    (case z_list => k_is)
    (case z_max => k_is)
    (case z_range => k_is)
    (case z_sorted => k_is)
    (case z_str => k_is)
    (case z_tuple => k_is)
    (case z_zip => k_is)
    (case z_LARGEST_SIZE => k_is)
    (case z_LONGEST_PLAN => k_is)
    (case z_FEWEST => k_is)
    (case z_MOST => k_is)
    (case z_TURN_UNITS => k_is)
    (case z_MOST_QUIET => k_is)
    (case z_PLACE_PARTS => k_is)
    (case a_law => k_is)
    (case l_law => k_is)
    (case cdi_law => k_is)
    (case k_law => k_is)
end
