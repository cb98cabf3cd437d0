import PyProof.Rows.All
import Wide.All
import OpenK.AllK
import Wide.FinOn
import HandS.ForMost
import HandS.Sort
import HandS.IsInst
import HandS.Deep
import HandS.TupAny
import HandS.TryOnly
import HandS.Style
import HandS.Flow
import HandS.Codes
import HandS.Evl
import HandS.SortInts
import HandS.Wide
import HandS.Gcd
import KE.KSortedM
import KE.DataMinMax
import KE.SortData
import HandS.DictComp
import HandS.More
import HandS.Walk
import HandS.DictTup
import PyProof.DictMoreH
import HandS.Conv
import PyProof.StrOps2
import PyProof.Rows.StrStep
import HandS.Zip
import PyProof.CollectIter
import HandS.Star
import PySem.Challenge.RW_listenfield_k38_gaps_of_plans
section
set_option Elab.async false
set_option linter.all false
set_option maxRecDepth 100000
set_option maxHeartbeats 4000000
/-! Lf: rules and words of our own over the hand layer (listenfield laws). -/
namespace Lf
open PySem PySem.Spec PyProof.Rows L2
theorem q_rng_item (r : Addr) (a b i : Int) (t u v k : Tok) (j : Int) (hj : j = if i < 0 then i + Builtin.Range.rangeSize a b 1 else i) (h0 : 0 ≤ j) (h1 : j < Builtin.Range.rangeSize a b 1) :
    Meets (Builtin.«range.__getitem__» ⟨[.ref r, .int i k], []⟩) (fun _ R s => s.heap.get? r = some { cls := .type "range", dict := none, data := .fields #[.int a t, .int b u, .int 1 v], slots := #[] } ∧ R (.ok (.ret (.int (a + j * 1) s.toks))) { s with toks := s.toks + 1 }) :=
  .of_wp fun prog w A R s h => by
    obtain ⟨hp, g, d, tk, os⟩ := s; obtain ⟨hl, h⟩ := h
    have e : (decide (j < 0) || decide (j ≥ Builtin.Range.rangeSize a b 1)) = false := by
      rw [decide_eq_false (by omega), decide_eq_false (by omega)]; rfl
    have f1 := PySem.AutoSeq1.idx_int
    wp_walk
    rw [← hj, e]
    wp_walk
    exact ⟨_, rfl, h⟩
theorem get_rng {prog : Program} {w : World} {A : Around} {E : Value → Shared → Prop} {s : Shared} {r : Addr} {a b i : Int} {t u v k : Tok} {Q : Value → Shared → Prop} (ho : s.heap.get? r = some { cls := .type "range", dict := none, data := .fields #[.int a t, .int b u, .int 1 v], slots := #[] }) (j : Int) (hj : j = if i < 0 then i + Builtin.Range.rangeSize a b 1 else i) (h0 : 0 ≤ j) (h1 : j < Builtin.Range.rangeSize a b 1)
    (h : Q (.int (a + j * 1) s.toks) { s with toks := s.toks + 1 }) : wpAny (model prog w) A (getItem (.ref r) (.int i k)) Q E s := by
  have hT : s.TypeIs (.ref r) "range" := ⟨_, ho, rfl⟩
  exact wpAny_getItem_slot hT (by decide +kernel) F.slot_range_getitem (call_meets F.slot_range_getitem hT F.entry_range_getitem (F.args_range_getitem_2 _ _) (q_rng_item r a b i t u v k j hj h0 h1) ⟨ho, h⟩)
section
variable {X : Cx}
/-- r[i] of a range object, i from 0 or from the end -/
def rIxR : R2 := fun x y H Q => ∃ p lo hi i j, x = .ref p ∧ y = .int i ∧ H p = some (.rng lo hi) ∧ (j = if i < 0 then i + (hi - lo) else i) ∧ (0 ≤ j ∧ lo + j < hi) ∧ Q (.int (lo + j)) H
theorem ix_rng : IxR X rIxR := by
  intro value slice pins s σ H x y v u Q I rx ry h hs
  obtain ⟨p, lo, hi, i, j, rfl, rfl, hq, hj, ⟨h0, h1⟩, q⟩ := h
  cases rx
  obtain ⟨k, rfl⟩ := ry
  obtain ⟨t1, t2, t3, ho⟩ := I.hok p _ hq
  have hT : s.TypeIs (.ref p) "range" := ⟨_, ho, rfl⟩
  have hz : Builtin.Range.rangeSize lo hi 1 = hi - lo := by rw [rangeSize_one, if_pos (by omega)]
  refine tail_any hT F.slot_range_getitem.lookup (get_rng ho j (by rw [hz]; exact hj) h0 (by omega) ⟨.int (lo + j), H, I.tok _, ?_, q⟩) hs
  rw [Int.mul_one]
  exact ⟨_, rfl⟩
/-- xs[i], by values -/
theorem get_list : PGet X (rIxL X.K) := by
  intro pins s σ H x y v u Q I rx ry h
  obtain ⟨p, xs, i, z, rfl, rfl, hq, he, q⟩ := h
  cases rx
  obtain ⟨t, rfl⟩ := ry
  obtain ⟨its, r, pl, hz⟩ := I.list hq
  obtain ⟨j, h1, h2, h3, h4, h5⟩ := atI_get he
  obtain ⟨w, ew, rw'⟩ := r.get h2
  have hl := r.length
  have hn := line63
  have fin : EP X pins σ Q w s := ⟨z, H, I, rw', q⟩
  by_cases h0 : 0 ≤ i
  · have hj : i.toNat = j := by
      rw [seqIndex_of h0 h5] at h1
      exact Option.some.inj h1
    exact wpAny_getItem_list pl.isList h0 (by omega) (by rw [hj]; simpa using ew) fin
  · have hj : (i + (its.toArray.size : Int)).toNat = j := by
      rw [seqIndex_neg (by omega) h4] at h1
      rw [List.size_toArray, ← hl]
      exact Option.some.inj h1
    exact wpAny_getItem_list_neg pl.isList (by omega) (by rw [List.size_toArray] <;> omega) (by omega) (by rw [hj]; simpa using ew) fin
/-- range(n) as a value -/
theorem cr_range1 : CallR X (.type "range") (fun vs H Q => ∃ j, vs = [V.int j] ∧ ∀ p, H p = none → Q (.ref p) (upd H p (.rng 0 j))) := by
  intro pins s σ H vs us Q I r h
  obtain ⟨j, rfl, q⟩ := h
  obtain ⟨u1, rfl, t, rfl⟩ := vals1 r
  refine call_range_1 ⟨.ref s.heap.objs.size, upd H s.heap.objs.size (.rng 0 j), I.laid (t' := s.toks + 1 + 1) (fun b o e => Heap.get?_push_of_some _ e) (Nat.le_refl _) ?_, rfl, q _ (I.hok.fresh (Nat.le_refl _))⟩
  exact ⟨s.toks, t, s.toks + 1, Heap.get?_push_size _ rfl⟩
end

/-! ### defs under known guards: repr of a list asks that nobody is being shown around it -/
structure Fn (P : Program) (w : World) (K : PySem.W.Frag) (mg : Str → Option Value) (base : Heap) (CX : CXT) (k : Nat) (f : Addr) (fd : FuncData) (ps : List Str) (sp : Sp) : Prop where
  many : ∀ vs H Q E, sp vs H Q E → vs.length = ps.length
  go : ∀ (A : Around) (outer : List Env) (s : Shared) (H : Hp) (args : Args) (us : List Value) (vs : List V) (Q : VK) (E : XK), A.guards = some [] → Room k A →
    Env0 P w K mg base A outer s H → BindsTo s fd args (ps.zip us) → Vals vs us → sp vs H Q E → codeAny (model P w) A (.call (.ref f) args) (CR CX outer P w H s Q E) s
section
variable {X : Cx} {CX : CXT} {k j : Nat} {f C : Addr} {fd : FuncData} {ps : List Str} {sp : Sp} {E : XK}
theorem Fn.ran {pins : List (Addr × Obj)} {σ : L2.St} {H : Hp} {s : Shared} {Q : VK} {us : List Value} {vs : List V} (F : Fn X.prog X.w X.K X.mg X.base CX k f fd ps sp) (g : X.A.guards = some []) (hr : Room k X.A)
    (hb : Binds X.K fd ps []) (hx : Passes CX X E) (I : Inv X pins σ H s) (r : Vals vs us) (h : sp vs H Q E) : wpAny (model X.prog X.w) X.A (call (.ref f) us) (EP X pins σ Q) X.xe s := by
  have n1 : us.length = ps.length := by
    rw [← F.many _ _ _ _ h]
    exact r.length.symm
  have b1 := hb s us I.kIn (by rw [List.append_nil]; exact n1)
  rw [List.append_nil] at b1
  refine wpAny_call (codeAny_mono (F.go _ _ _ _ _ us vs Q E g hr I.env0 b1 r h) ?_)
  intro res s' hq
  rcases res with e | fl
  · exact hx _ _ _ _ _ _ I hq
  · cases fl
    case ret u => exact I.after hq
    all_goals exact hq.elim
theorem Fn.made {pins : List (Addr × Obj)} {σ : L2.St} {H : Hp} {s : Shared} {Q : VK} {us : List Value} {vs : List V} (M : Mk X.K C f) (F : Fn X.prog X.w X.K X.mg X.base CX k f fd ps sp) (g : X.A.guards = some []) (hr : Room (k + 1) X.A)
    (hb : Binds X.K fd ps []) (hx : Passes CX X E) (I : Inv X pins σ H s) (r : Vals vs us)
    (h : ∀ x dx, H x = none → H dx = none → dx ≠ x → sp (.ref x :: vs) (upd (upd H dx (.own x)) x (.ins C dx [])) (fun v H2 => v = .non ∧ Q (.ref x) H2) E) :
    wpAny (model X.prog X.w) X.A (call (.ref C) us) (EP X pins σ Q) X.xe s := by
  have f0 : H s.heap.objs.size = none := I.hok.fresh (Nat.le_refl _)
  have f1 : H (s.heap.objs.size + 1) = none := I.hok.fresh (Nat.le_succ _)
  have h1 := h _ _ f1 f0 (Nat.ne_of_lt (Nat.lt_succ_self _))
  have I1 := Inv.made (C := C) I
  have r1 : Vals (V.ref (s.heap.objs.size + 1) :: vs) (Value.ref (s.heap.objs.size + 1) :: us) := .cons rfl r
  have n1 : (Value.ref (s.heap.objs.size + 1) :: us).length = ps.length := by
    rw [← F.many _ _ _ _ h1]
    exact r1.length.symm
  have b1 := hb _ _ I1.kIn (show (Value.ref (s.heap.objs.size + 1) :: us ++ []).length = ps.length by rw [List.append_nil]; exact n1)
  rw [List.append_nil] at b1
  have g1 : (X.A.under (.builtin "type.__call__" ⟨.ref C :: us, []⟩)).guards = some [] := by
    unfold Around.under
    simp only [g]
    first | rfl | simp [pushGuards, Code.guards, Code.isGuard, guardIds]
  refine wpAny_call (make_map (f := f) I.kIn M.makes M.init (beq_iff_eq.mp M.fn) (codeAny_mono (F.go _ _ _ _ _ _ _ _ E g1 (hr.make C us []) (I1.env0.make C us []) b1 r1 h1) ?_))
  intro res s' hq
  rcases res with e | fl
  · exact hx _ _ _ _ _ _ I1 hq
  · cases fl
    case ret u =>
      obtain ⟨v, H', I2, rv, ev, q2⟩ := I1.after hq
      subst ev
      exact ⟨rv, ⟨V.ref (s.heap.objs.size + 1), H', I2, rfl, q2⟩⟩
    all_goals exact hq.elim
end
/-- a def that may be called by its name -/
structure Cal (P : Program) (w : World) (K : PySem.W.Frag) (mg : Str → Option Value) (base : Heap) (CX : CXT) (k : Nat) (x : Str) (sp : Sp) : Prop where
  ex : ∃ (f : Addr) (fd : FuncData) (ps : List Str), Fn P w K mg base CX k f fd ps sp ∧ mg x = some (.ref f) ∧ PySem.W.keepIn K (.ref f) = true ∧ Binds K fd ps []
/-- a method of the class at C -/
structure Met (P : Program) (w : World) (K : PySem.W.Frag) (mg : Str → Option Value) (base : Heap) (CX : CXT) (k : Nat) (C : Addr) (m : Str) (sp : Sp) : Prop where
  ex : ∃ (f : Addr) (fd : FuncData) (ps : List Str), Cls K C ∧ Meth K C m f ∧ Fn P w K mg base CX k f fd ps sp ∧ Binds K fd ps []
/-- a class that is made by its name, sp its __init__ -/
structure Mak (P : Program) (w : World) (K : PySem.W.Frag) (mg : Str → Option Value) (base : Heap) (CX : CXT) (k : Nat) (x : Str) (C : Addr) (sp : Sp) : Prop where
  ex : ∃ (f : Addr) (fd : FuncData) (ps : List Str), Mk K C f ∧ Fn P w K mg base CX k f fd ps sp ∧ mg x = some (.ref C) ∧ Binds K fd ps []
section
variable {X : Cx} {CX : CXT} {k j : Nat} {C : Addr} {sp : Sp} {E : XK} {x m : Str} {p pos apos : Pos} {e o : Expr} {es : List Expr} {ta : TE} {t : TA}
def tCl (sp : Sp) (E : XK) (t : TA) : TE := fun σ H Q => t σ H fun vs H1 => sp vs H1 Q E
def tMt (C : Addr) (m : Str) (sp : Sp) (E : XK) (ta : TE) (t : TA) : TE := fun σ H Q => ta σ H fun x H1 => ∃ a dx fs, x = .ref a ∧ H1 a = some (.ins C dx fs) ∧ fs.lookup m = none ∧ t σ H1 fun vs H2 => sp (x :: vs) H2 Q E
def tMk (C : Addr) (sp : Sp) (E : XK) (t : TA) : TE := fun σ H Q => t σ H fun vs H1 => ∀ x dx, H1 x = none → H1 dx = none → dx ≠ x → sp (.ref x :: vs) (upd (upd H1 dx (.own x)) x (.ins C dx [])) (fun v H2 => v = .non ∧ Q (.ref x) H2) E
theorem ec (c : Cal X.prog X.w X.K X.mg X.base CX k x sp) (g : X.A.guards = some []) (hr : Room j X.A) (hk : k ≤ j) (hx : Passes CX X E) (hg : Gl X x) (ha : PA X (e :: es) t)
    (hdb : (x == ("__debug__" : Str)) = false := by decide) (he : starEach (e :: es) X.env = (false, eval e X.env) :: starEach es X.env := by rfl) (hpl : (backTo pos (starEach es X.env)).any (·.1) = false := by rfl) :
    PE X (.Call (.Name x p) (e :: es) [] pos) (tCl sp E t) := by
  obtain ⟨f, fd, ps, F, hm, kp, b⟩ := c.ex
  constructor
  intro pins s σ H Q I h
  apply wpAny_Call_Name_kw
  refine ld_glob I hg hm (PySem.W.callWith_K (h₀ := X.base) I.ok.mod.kin kp (thn (ha.run pos pins s σ H _ I h) ?_) he hpl) hdb
  rintro us s1 ⟨vs, H1, I1, r, q⟩
  exact ⟨I1.kIn, F.ran g (hr.mono hk) b hx I1 r q⟩
theorem emk (c : Mak X.prog X.w X.K X.mg X.base CX k x C sp) (g : X.A.guards = some []) (hr : Room j X.A) (hk : k + 1 ≤ j) (hx : Passes CX X E) (hg : Gl X x) (ha : PA X (e :: es) t)
    (hdb : (x == ("__debug__" : Str)) = false := by decide) (he : starEach (e :: es) X.env = (false, eval e X.env) :: starEach es X.env := by rfl) (hpl : (backTo pos (starEach es X.env)).any (·.1) = false := by rfl) :
    PE X (.Call (.Name x p) (e :: es) [] pos) (tMk C sp E t) := by
  obtain ⟨f, fd, ps, M, F, hm, b⟩ := c.ex
  constructor
  intro pins s σ H Q I h
  apply wpAny_Call_Name_kw
  refine ld_glob I hg hm (PySem.W.callWith_K (h₀ := X.base) I.ok.mod.kin M.kp (thn (ha.run pos pins s σ H _ I h) ?_) he hpl) hdb
  rintro us s1 ⟨vs, H1, I1, r, q⟩
  exact ⟨I1.kIn, F.made M g (hr.mono hk) b hx I1 r q⟩
theorem emt {pl : Sem Bool} (c : Met X.prog X.w X.K X.mg X.base CX k C m sp) (g : X.A.guards = some []) (hr : Room j X.A) (hk : k ≤ j) (hx : Passes CX X E) (he : PE X o ta) (ha : PA X (e :: es) t)
    (hst : starEach (e :: es) X.env = (false, eval e X.env) :: starEach es X.env := by rfl) (hpl : (backTo pos (starEach es X.env)).any (·.1) = false := by rfl)
    (ht : eval (.Call (.Attribute o m apos) (e :: es) [] pos) X.env = (do
      let ov ← eval o X.env
      standAt apos.atName
      let (f, first) ← holding [ov] (getMethod ov m pl)
      callWith pos f first (backTo pos (starEach (e :: es) X.env)) (backToKw pos (keywordEach [] X.env))) := by rfl) :
    PE X (.Call (.Attribute o m apos) (e :: es) [] pos) (tMt C m sp E ta t) := by
  obtain ⟨f, fd, ps, hc, hm, F, b⟩ := c.ex
  constructor
  intro pins s σ H Q I h
  refine PySem.W.methodCall_KW (pl := pl) (thn (he.run pins s σ H _ I h) ?_) ht
  rintro u s1 ⟨x, H1, I1, rx, a, dx, fs, rfl, ea, l, q⟩
  obtain rfl : u = Value.ref a := rx
  refine getmeth_ok I1 ea hc hm l (PySem.W.callWith_K (first := [.ref a]) (h₀ := X.base) I.ok.mod.kin hm.kp (thn (ha.run pos pins s1 σ H1 _ I1 q) ?_) hst hpl)
  rintro us s2 ⟨vs, H2, I2, r, q2⟩
  exact ⟨I2.kIn, F.ran (us := .ref a :: us) (vs := .ref a :: vs) g (hr.mono hk) b hx I2 (.cons rfl r) q2⟩
theorem emt0 {pl : Sem Bool} (c : Met X.prog X.w X.K X.mg X.base CX k C m sp) (g : X.A.guards = some []) (hr : Room j X.A) (hk : k ≤ j) (hx : Passes CX X E) (he : PE X o ta)
    (ht : eval (.Call (.Attribute o m apos) [] [] pos) X.env = (do
      let ov ← eval o X.env
      standAt apos.atName
      let (f, first) ← holding [ov] (getMethod ov m pl)
      callWith pos f first (backTo pos (starEach [] X.env)) (backToKw pos (keywordEach [] X.env))) := by rfl) :
    PE X (.Call (.Attribute o m apos) [] [] pos) (tMt C m sp E ta tNil) := by
  obtain ⟨f, fd, ps, hc, hm, F, b⟩ := c.ex
  constructor
  intro pins s σ H Q I h
  refine PySem.W.methodCall_KW (pl := pl) (thn (he.run pins s σ H _ I h) ?_) ht
  rintro u s1 ⟨x, H1, I1, rx, a, dx, fs, rfl, ea, l, q⟩
  obtain rfl : u = Value.ref a := rx
  exact getmeth_ok I1 ea hc hm l (PySem.W.callWith_K0 (first := [.ref a]) I1.kIn hm.kp (F.ran (us := [.ref a]) (vs := [.ref a]) g (hr.mono hk) b hx I1 (.cons rfl .nil) q))
end
/-! ### a def by its body -/
theorem fnG {CX : CXT} {P : Program} {w : World} {K : PySem.W.Frag} {mg : Str → Option Value} {base : Heap} {k : Nat} {x qual : Str} {st : Stmt} {f : Addr} {fd : FuncData} {N ps : List Str} {sp : Sp} (D : L2.Fun K x qual st f fd) (S : FnScope N ps (defScope st))
    (many : ∀ vs H Q E, sp vs H Q E → vs.length = ps.length)
    (body : ∀ (cdv : Value) (A : Around) (outer : List Env) (s : Shared) (H : Hp) (vs : List V) (Q : VK) (E : XK), A.guards = some [] → Room k (A.deeper (envOfC qual (defScope st) s.heap.objs.size f cdv)) → sp vs H Q E →
      ∃ t, PSs (cxOf CX P w K mg base N qual (defScope st) f cdv A outer s H E) (defBody st) t ∧ t { nx := fun _ H' => Q .non H', rt := Q } (start N vs) H) : Fn P w K mg base CX (k + 1) f fd ps sp := by
  obtain ⟨oc, od, kV, doc, pm, an, cdv, ct, osl, rfl, lk, hcd⟩ := D.ex
  refine ⟨many, ?_⟩
  intro A outer s H args us vs Q E g hr e0 hb r hsp
  have up : ∀ b o, base.get? b = some o → s.heap.get? b = some o := fun b o e => (e0.bs b o e).1
  have kin : K.In s.heap := e0.mod.kin.keeps up
  refine codeAny_call_function hr.depth (kin _ _ lk) rfl S.co S.gen rfl (PySem.W.codeRec_of kin hcd) (hb _ _ _ _ ?_)
  refine wpAny_newFunctionEnv_cells S.kind ?_ ?_
  · rintro ⟨n, v⟩ hy
    have hp := (List.of_mem_zip hy).1
    refine (S.par n hp).imp id fun q => ⟨q, PySem.W.cellsFrom_some _ _ _ (.inl q)⟩
  · rintro env rfl s1 x1
    refine ⟨(e0.mod.nolimit.keeps up).keeps x1.toInCall.keep, codeAny_func ?_⟩
    obtain ⟨t, ht, hq⟩ := body cdv A outer s H vs Q E g (hr.deeper _) hsp
    refine wpAny_mono (ht.run [] s1 (start N vs) H _ (inv_start S hr.hd e0 (many _ _ _ _ hsp) r x1) hq) ?_ (fun e s' hs => hs)
    intro fl s' hs
    cases fl
    case ret u =>
      obtain ⟨v, σ', H', J, rv, q⟩ := hs
      exact ⟨v, H', J.os, J.bare, J.base, J.hok, rv, q⟩
    case next =>
      obtain ⟨σ', H', J, q⟩ := hs
      exact ⟨V.non, H', J.os, J.bare, J.base, J.hok, rfl, q⟩
    case brk => exact (let ⟨_, _, _, q⟩ := hs; False.elim q)
    case cont => exact (let ⟨_, _, _, q⟩ := hs; False.elim q)
theorem fn0G {P : Program} {w : World} {K : PySem.W.Frag} {mg : Str → Option Value} {base : Heap} {k : Nat} {x qual : Str} {st : Stmt} {f : Addr} {fd : FuncData} {N ps : List Str} {sp : Sp} (D : L2.Fun K x qual st f fd) (S : FnScope N ps (defScope st))
    (many : ∀ vs H Q E, sp vs H Q E → vs.length = ps.length)
    (body : ∀ (cdv : Value) (A : Around) (outer : List Env) (s : Shared) (H : Hp) (vs : List V) (Q : VK) (E : XK), A.guards = some [] → Room k (A.deeper (envOfC qual (defScope st) s.heap.objs.size f cdv)) → sp vs H Q E →
      ∃ t, PSs (cxOf CX0 P w K mg base N qual (defScope st) f cdv A outer s H E).nox (defBody st) t ∧ t { nx := fun _ H' => Q .non H', rt := Q } (start N vs) H) : Fn P w K mg base CX0 (k + 1) f fd ps sp :=
  fnG D S many fun cdv A outer s H vs Q E g hr h => let ⟨t, ht, q⟩ := body cdv A outer s H vs Q E g hr h; ⟨t, ht.nox, q⟩
/-- a def of the module as the top left it -/
structure Df (K : PySem.W.Frag) (mg : Str → Option Value) (x : Str) (st : Stmt) (ps : List Str) : Prop where
  ex : ∃ (f : Addr) (fd : FuncData), L2.Fun K x x st f fd ∧ mg x = some (.ref f) ∧ Binds K fd ps []
/-- a method as the top left it -/
structure Md (K : PySem.W.Frag) (C : Addr) (m qual : Str) (st : Stmt) (ps : List Str) : Prop where
  ex : ∃ (f : Addr) (fd : FuncData), L2.Fun K m qual st f fd ∧ Meth K C m f ∧ Binds K fd ps []
section
variable {P : Program} {w : World} {K : PySem.W.Frag} {mg : Str → Option Value} {base : Heap} {k : Nat} {x m qual : Str} {st : Stmt} {N ps : List Str} {sp : Sp} {C : Addr}
theorem Df.cal (D : Df K mg x st ps) (S : FnScope N ps (defScope st)) (many : ∀ vs H Q E, sp vs H Q E → vs.length = ps.length)
    (body : ∀ (f : Addr) (cdv : Value) (A : Around) (outer : List Env) (s : Shared) (H : Hp) (vs : List V) (Q : VK) (E : XK), A.guards = some [] → Room k (A.deeper (envOfC x (defScope st) s.heap.objs.size f cdv)) → sp vs H Q E →
      ∃ t, PSs (cxOf CX0 P w K mg base N x (defScope st) f cdv A outer s H E).nox (defBody st) t ∧ t { nx := fun _ H' => Q .non H', rt := Q } (start N vs) H) : Cal P w K mg base CX0 (k + 1) x sp := by
  obtain ⟨f, fd, F, hm, b⟩ := D.ex
  refine ⟨f, fd, ps, fnG F S many (fun cdv A outer s H vs Q E g hr h => ?_), hm, F.kp, b⟩
  obtain ⟨t, ht, q⟩ := body f cdv A outer s H vs Q E g hr h
  exact ⟨t, ht.nox, q⟩
theorem Md.met (D : Md K C m qual st ps) (c : Cls K C) (S : FnScope N ps (defScope st)) (many : ∀ vs H Q E, sp vs H Q E → vs.length = ps.length)
    (body : ∀ (f : Addr) (cdv : Value) (A : Around) (outer : List Env) (s : Shared) (H : Hp) (vs : List V) (Q : VK) (E : XK), A.guards = some [] → Room k (A.deeper (envOfC qual (defScope st) s.heap.objs.size f cdv)) → sp vs H Q E →
      ∃ t, PSs (cxOf CX0 P w K mg base N qual (defScope st) f cdv A outer s H E).nox (defBody st) t ∧ t { nx := fun _ H' => Q .non H', rt := Q } (start N vs) H) : Met P w K mg base CX0 (k + 1) C m sp := by
  obtain ⟨f, fd, F, hm, b⟩ := D.ex
  refine ⟨f, fd, ps, c, hm, fnG F S many (fun cdv A outer s H vs Q E g hr h => ?_), b⟩
  obtain ⟨t, ht, q⟩ := body f cdv A outer s H vs Q E g hr h
  exact ⟨t, ht.nox, q⟩
theorem Md.mak (D : Md K C "__init__" qual st ps) (hm : mg x = some (.ref C)) (M : ∀ f, Meth K C "__init__" f → Mk K C f) (S : FnScope N ps (defScope st)) (many : ∀ vs H Q E, sp vs H Q E → vs.length = ps.length)
    (body : ∀ (f : Addr) (cdv : Value) (A : Around) (outer : List Env) (s : Shared) (H : Hp) (vs : List V) (Q : VK) (E : XK), A.guards = some [] → Room k (A.deeper (envOfC qual (defScope st) s.heap.objs.size f cdv)) → sp vs H Q E →
      ∃ t, PSs (cxOf CX0 P w K mg base N qual (defScope st) f cdv A outer s H E).nox (defBody st) t ∧ t { nx := fun _ H' => Q .non H', rt := Q } (start N vs) H) : Mak P w K mg base CX0 (k + 1) x C sp := by
  obtain ⟨f, fd, F, me, b⟩ := D.ex
  refine ⟨f, fd, ps, M f me, fnG F S many (fun cdv A outer s H vs Q E g hr h => ?_), hm, b⟩
  obtain ⟨t, ht, q⟩ := body f cdv A outer s H vs Q E g hr h
  exact ⟨t, ht.nox, q⟩
end
end Lf
end
section
set_option Elab.async false
set_option linter.all false
set_option maxRecDepth 100000
set_option maxHeartbeats 4000000
namespace Lf
open PySem PySem.Spec PyProof.Rows L2
/-! ### the law's call -/
/-- the heap at the law's entry, as far as it is told: nothing, or the script alone -/
theorem lawG0 {P : Program} {w : World} {K : PySem.W.Frag} {mg mb : Str → Option Value} {k : Nat} {fa a : Addr} {fd : FuncData} {x : Str} {sp : Sp} {s : Shared} {vs : List Value}
    (KX : K.In s.heap) (hns : s.heap.Ns mainGlobals mg) (hb : s.heap.Ns builtinsNs mb) (hbb : ∀ x : Str, x ≠ "__name__" → mb x = bootBuiltins x) (lim : s.heap.NoLimit) (hg : s.gens = #[])
    (ha : s.heap.get? a = some { cls := .type "list", data := .seq vs.toArray }) (F : ∀ base : Heap, K.In base → base.Ns mainGlobals mg → Fn P w K mg base CX0 k fa fd [x] sp)
    (hbind : ∀ (s : Shared) (u : Value), BindsTo s fd ⟨[u], []⟩ [(x, u)]) (hr : Room k callerA) (H : Hp) (hO : Only H) (hok : HOk P w H s.heap) (hA : ∀ b, H b ≠ none → b = a ∧ K.lookup a = none)
    (hsp : sp [.ref a] H (fun v _ => v = .bl true) fun _ _ _ => False) :
    codeAny (model P w) callerA (.call (.ref fa) ⟨[.ref a], []⟩) (fun r s' => r = .ok (.ret (.bool true)) ∧ OldK s.heap s'.heap ∧ s'.os = s.os ∧ AllBare s'.gens) s := by
  have free : ∀ b, (b = a → False) → H b = none := by
    intro b hb
    cases q : H b with
    | none => rfl
    | some u => exact (hb (hA b (by rw [q]; simp)).1).elim
  have mapped : ∀ {b : Addr} {m : Str → Option Value}, s.heap.Ns b m → (hidT s.heap H).Ns b m := by
    rintro b m ⟨o, es, ep, e, d, r⟩
    refine ⟨o, es, ep, hidT_get e (free b ?_), d, r⟩
    rintro rfl
    rw [ha] at e
    cases e
    cases (show Data.seq vs.toArray _ = Data.dict es ep from d)
  have kin : K.In (hidT s.heap H) := by
    intro b o e
    refine hidT_get (KX b o e) ?_
    cases q : H b with
    | none => rfl
    | some u =>
      obtain ⟨e1, e2⟩ := hA b (by rw [q]; simp)
      rw [e1, e2] at e
      cases e
  obtain ⟨mc, l1, l2⟩ := lim
  have e0 : Env0 P w K mg (hidT s.heap H) callerA [] s H :=
    ⟨rfl, ⟨kin, mapped hns, ⟨mb, mapped hb, hbb⟩, ⟨mc, mapped l1, l2⟩⟩, fun b o e => of_hidT e, Nat.le_of_eq (hidT_size _ _), trivial, fun b hb => (List.not_mem_nil hb).elim, hok, .of_eq hg⟩
  have run := (F _ kin (mapped hns)).go callerA [] s H ⟨[.ref a], []⟩ [.ref a] [.ref a] _ _ rfl hr e0 (hbind s (.ref a)) (.cons rfl .nil) hsp
  refine codeAny_mono run ?_
  intro r s' h
  rcases r with e | fl
  · exact (show False from h).elim
  · cases fl
    case ret u =>
      obtain ⟨v, H', os, bare, un, hok', r', q⟩ := h
      obtain rfl : v = .bl true := q
      obtain rfl : u = Value.bool true := r'
      refine ⟨rfl, OldK.of_keep ?_, os, bare⟩
      intro b o e
      rcases hO b with q | ⟨ob, xs, q⟩
      · exact un.keep b o e q (fun z => (List.not_mem_nil z).elim) (fun z => (List.not_mem_nil z).elim)
      · have e1 := (hok b _ q).1
        have e2 := (hok' b _ (un.frzs b ob _ q)).1
        rw [e] at e1
        cases e1
        exact e2
    all_goals exact (show False from h).elim
theorem lawG {P : Program} {w : World} {K : PySem.W.Frag} {mg mb : Str → Option Value} {k : Nat} {fa a : Addr} {fd : FuncData} {x : Str} {sp : Sp} {s : Shared} {vs : List Value} {ns : List Int}
    (KX : K.In s.heap) (hns : s.heap.Ns mainGlobals mg) (hb : s.heap.Ns builtinsNs mb) (hbb : ∀ x : Str, x ≠ "__name__" → mb x = bootBuiltins x) (lim : s.heap.NoLimit) (hg : s.gens = #[])
    (ha : s.heap.get? a = some { cls := .type "list", data := .seq vs.toArray }) (hi : IntsAre vs ns) (hl : ns.length ≤ sizeLine) (F : ∀ base : Heap, K.In base → base.Ns mainGlobals mg → Fn P w K mg base CX0 k fa fd [x] sp)
    (hbind : ∀ (s : Shared) (u : Value), BindsTo s fd ⟨[u], []⟩ [(x, u)]) (hr : Room k callerA) (hsp : ∀ H : Hp, Only H → SqL K H a (ns.map V.int) → sp [.ref a] H (fun v _ => v = .bl true) fun _ _ _ => False) :
    codeAny (model P w) callerA (.call (.ref fa) ⟨[.ref a], []⟩) (fun r s' => r = .ok (.ret (.bool true)) ∧ OldK s.heap s'.heap ∧ s'.os = s.os ∧ AllBare s'.gens) s := by
  have rv : Vals (ns.map V.int) vs := vals_ints hi
  have many := hi.length
  cases hk : K.lookup a with
  | some o =>
    have e := KX a o hk
    rw [ha] at e
    cases e
    have hS : SqL K (fun _ => none) a (ns.map V.int) := .inr ⟨_, vs.toArray, _, hk, rfl, rfl, rfl, by rw [List.size_toArray, many]; exact hl, by simpa using rv⟩
    exact lawG0 KX hns hb hbb lim hg ha F hbind hr (fun _ => none) (fun _ => .inl rfl) (fun b u z => nomatch (show (none : Option HO) = some u from z)) (fun b z => (z rfl).elim) (hsp _ (fun _ => .inl rfl) hS)
  | none =>
    let H : Hp := upd (fun _ => none) a (.frz { cls := .type "list", data := .seq vs.toArray } (.lst (ns.map V.int)))
    have hH : H a = some (.frz { cls := .type "list", data := .seq vs.toArray } (.lst (ns.map V.int))) := upd_same
    have hN : ∀ b, b ≠ a → H b = none := fun b hb => upd_ne hb
    have hO : Only H := by
      intro b
      by_cases e : b = a
      · subst e
        exact .inr ⟨_, _, hH⟩
      · exact .inl (hN b e)
    refine lawG0 KX hns hb hbb lim hg ha F hbind hr H hO ?_ ?_ (hsp H hO (.inl (.inr ⟨_, hH⟩)))
    · intro b u z
      by_cases e : b = a
      · subst e
        rw [hH] at z
        cases z
        exact ⟨ha, by rw [List.length_map]; exact hl, vs, _, rv, ha⟩
      · rw [hN b e] at z
        cases z
    · intro b z
      refine ⟨?_, hk⟩
      by_cases e : b = a
      · exact e
      · exact (z (hN b e)).elim
/-- the goal that the head leaves, from the law's promise -/
theorem walkG {l : PySem.W.OpenLaw} {k : Nat} {q : Program} {loose : List Str} {XP : (Str → Option Value) → Heap → Prop} {YP : World → Heap → Prop} {d : DefRec} {K : Params → PySem.W.Frag} {sp : World → Sp} {x : Str}
    (hn : l.most = some 63) (hdf : d.params.defaults = []) (hr : Room k callerA) (hY : ∀ (w : World) (h : Heap), YP w h → (K w.params).In h)
    (F : ∀ (w : World) (mg : Str → Option Value) (fa : Addr) (h : Heap), (K w.params).In h → h.Ns mainGlobals mg → mg d.name = some (.ref fa) →
      ∃ fd : FuncData, (∀ (s : Shared) (u : Value), BindsTo s fd ⟨[u], []⟩ [(x, u)]) ∧ ∀ base : Heap, (K w.params).In base → base.Ns mainGlobals mg → Fn l.prog w (K w.params) mg base CX0 k fa fd [x] (sp w))
    (hsp : ∀ (w : World) (H : Hp) (a : Addr) (ns : List Int), ns.length ≤ 63 → Only H → SqL (K w.params) H a (ns.map V.int) → sp w [.ref a] H (fun v _ => v = .bl true) fun _ _ _ => False) :
    PySem.W.WalkO q loose XP YP l.row.toRowW d [] (fun f vs => PySem.call f vs) := by
  refine Att.attach_call hn hdf ?_
  intro w s₀ s₁ mg mb fa o pm cd doc a vs ns G Y ho hd hcd hmg hobj hints hlen hg
  have KX := hY w _ Y
  obtain ⟨fd, hb, hF⟩ := F w mg fa _ KX G.T.g hmg
  exact lawG KX G.T.g G.T.b G.T.builtins G.T.nolimit hg hobj hints (Nat.le_trans hlen (by decide)) hF hb hr (fun H hO hS => hsp w H a ns hlen hO hS)
/-! ### repr of data at any depth -/
section
variable {X : Cx}
def rRepr (K : PySem.W.Frag) : List V → Hp → VK → Prop := fun xs H Q => ∃ v d, xs = [v] ∧ Dp K H v d ∧ d.showable = true ∧ d.hasDict = false ∧ d.depth ≤ 60 ∧ d.shown.length ≤ sizeLine ∧ Q (.str d.shown) H
theorem cr_repr (g : X.A.guards = some []) (hu : X.A.units + 64 < cLine) : CallR X (.builtin "repr") (rRepr X.K) := by
  intro pins s σ H xs us Q I r h
  obtain ⟨v, d, rfl, hd, hs, hnd, hdep, hz, q⟩ := h
  obtain ⟨u, rfl, rv⟩ := vals1 r
  cases hd with
  | non => cases rv; exact PySem.P.repr_of_none ⟨.str _, H, I.tok _, ⟨_, rfl⟩, q⟩
  | bl b =>
    cases rv
    refine PySem.P.repr_of_bool ⟨.str _, H, I.tok _, ⟨_, rfl⟩, ?_⟩
    cases b <;> exact q
  | int i =>
    obtain ⟨t, rfl⟩ := rv
    exact PySem.P.repr_of_int (of_decide_eq_true hs) ⟨.str _, H, I.tok _, ⟨_, rfl⟩, q⟩
  | str x =>
    obtain ⟨t, rfl⟩ := rv
    exact PySem.P.repr_of_str ⟨.str _, H, I.tok _, ⟨_, rfl⟩, q⟩ hz
  | lst h1 h2 =>
    obtain ⟨as, rd⟩ := Dp.reads I _ _ _ (Dp.lst h1 h2) rv
    cases rv
    exact repr_of_reads' rd hs (fun z => by rw [hnd] at z; cases z) g (by omega) (fun b o e => e) (fun h' u tk hk => ⟨.str _, H, I.kept hk, ⟨_, rfl⟩, q⟩) hz
  | tup h1 h2 =>
    obtain ⟨as, rd⟩ := Dp.reads I _ _ _ (Dp.tup h1 h2) rv
    cases rv
    exact repr_of_reads' rd hs (fun z => by rw [hnd] at z; cases z) g (by omega) (fun b o e => e) (fun h' u tk hk => ⟨.str _, H, I.kept hk, ⟨_, rfl⟩, q⟩) hz
end
end Lf
end
section
set_option Elab.async false
set_option linter.all false
set_option maxRecDepth 100000
set_option maxHeartbeats 4000000
namespace Lf
open PySem PySem.Spec PyProof.Rows L2
open Evl
theorem u65 {k : Nat} {A : Around} (hr : Room k A) : A.units + 65 < cLine := by have := hr.un; omega
/-! ### data, kept -/
mutual
theorem dp_ex {K : PySem.W.Frag} {H H' : Hp} (e : Ex H H') : ∀ (d : PyData) (v : V), Dp K H v d → Dp K H' v d
  | .none, _, h => by cases h; exact .non
  | .bool b, _, h => by cases h; exact .bl b
  | .int i, _, h => by cases h; exact .int i
  | .str x, _, h => by cases h; exact .str x
  | .list ds, _, h => by
    cases h with
    | lst h1 h2 => exact .lst (ex_l e h1) (dps_ex e ds _ h2)
  | .tuple ds, _, h => by
    cases h with
    | tup h1 h2 => exact .tup (ex_t e h1) (dps_ex e ds _ h2)
  | .dict _, _, h => by cases h
theorem dps_ex {K : PySem.W.Frag} {H H' : Hp} (e : Ex H H') : ∀ (ds : List PyData) (vs : List V), DpAll K H vs ds → DpAll K H' vs ds
  | [], _, h => by cases h; exact .nil
  | d :: ds, _, h => by
    cases h with
    | cons h1 h2 => exact .cons (dp_ex e d _ h1) (dps_ex e ds _ h2)
end
theorem Dp.ex {K : PySem.W.Frag} {H H' : Hp} {v : V} {d : PyData} (h : Dp K H v d) (e : Ex H H') : Dp K H' v d := dp_ex e d v h
theorem Dps.ex {K : PySem.W.Frag} {H H' : Hp} {vs : List V} {ds : List PyData} (h : DpAll K H vs ds) (e : Ex H H') : DpAll K H' vs ds := dps_ex e ds vs h
theorem dp_list {K : PySem.W.Frag} {H : Hp} {v : V} {ds : List PyData} (h : Dp K H v (.list ds)) : ∃ a xs, v = .ref a ∧ SqL K H a xs ∧ DpAll K H xs ds := by
  cases h with
  | lst h1 h2 => exact ⟨_, _, rfl, h1, h2⟩
theorem dp_tup {K : PySem.W.Frag} {H : Hp} {v : V} {ds : List PyData} (h : Dp K H v (.tuple ds)) : ∃ a xs, v = .ref a ∧ SqT K H a xs ∧ DpAll K H xs ds := by
  cases h with
  | tup h1 h2 => exact ⟨_, _, rfl, h1, h2⟩
theorem dp_int {K : PySem.W.Frag} {H : Hp} {v : V} {i : Int} (h : Dp K H v (.int i)) : v = .int i := by cases h; rfl
theorem Dps.len {K : PySem.W.Frag} {H : Hp} : ∀ {vs : List V} {ds : List PyData}, DpAll K H vs ds → vs.length = ds.length
  | _, _, .nil => rfl
  | _, _, .cons _ t => congrArg (· + 1) (Dps.len t)
theorem Dps.get {K : PySem.W.Frag} {H : Hp} : ∀ {vs : List V} {ds : List PyData} {i : Nat} {v : V}, DpAll K H vs ds → vs[i]? = some v → ∃ d, ds[i]? = some d ∧ Dp K H v d
  | _, _, 0, _, .cons h _, e => by simp at e; subst e; exact ⟨_, rfl, h⟩
  | _, _, i + 1, _, .cons _ t, e => by
    obtain ⟨d, h1, h2⟩ := Dps.get (i := i) t (by simpa using e)
    exact ⟨d, by simpa using h1, h2⟩
theorem Dps.get2 {K : PySem.W.Frag} {H : Hp} : ∀ {vs : List V} {ds : List PyData} {i : Nat} {d : PyData}, DpAll K H vs ds → ds[i]? = some d → ∃ v, vs[i]? = some v ∧ Dp K H v d
  | _, _, 0, _, .cons h _, e => by simp at e; subst e; exact ⟨_, rfl, h⟩
  | _, _, i + 1, _, .cons _ t, e => by
    obtain ⟨d, h1, h2⟩ := Dps.get2 (i := i) t (by simpa using e)
    exact ⟨d, by simpa using h1, h2⟩
theorem Dps.app {K : PySem.W.Frag} {H : Hp} : ∀ {vs ws : List V} {ds es : List PyData}, DpAll K H vs ds → DpAll K H ws es → DpAll K H (vs ++ ws) (ds ++ es)
  | _, _, _, _, .nil, h => h
  | _, _, _, _, .cons h t, h2 => .cons h (Dps.app t h2)
theorem Dps.ints {K : PySem.W.Frag} {H : Hp} : ∀ {ns : List Int}, DpAll K H (ns.map V.int) (ns.map PyData.int)
  | [] => .nil
  | n :: _ => .cons (.int n) Dps.ints
theorem Dps.ints_inv {K : PySem.W.Frag} {H : Hp} : ∀ {ns : List Int} {vs : List V}, DpAll K H vs (ns.map PyData.int) → vs = ns.map V.int
  | [], _, h => by cases h; rfl
  | n :: ns, _, h => by
    cases h with
    | cons h1 h2 =>
      have e1 := dp_int h1
      have e2 := Dps.ints_inv h2
      rw [e1, e2, List.map_cons]
theorem Dps.take {K : PySem.W.Frag} {H : Hp} : ∀ {vs : List V} {ds : List PyData} (n : Nat), DpAll K H vs ds → DpAll K H (vs.take n) (ds.take n)
  | _, _, 0, _ => .nil
  | _, _, _ + 1, .nil => .nil
  | _, _, n + 1, .cons h t => .cons h (Dps.take n t)
theorem Dps.drop {K : PySem.W.Frag} {H : Hp} : ∀ {vs : List V} {ds : List PyData} (n : Nat), DpAll K H vs ds → DpAll K H (vs.drop n) (ds.drop n)
  | _, _, 0, h => h
  | _, _, _ + 1, .nil => .nil
  | _, _, n + 1, .cons _ t => Dps.drop n t
theorem ty_of_l {K : PySem.W.Frag} {H : Hp} {a : Addr} {xs : List V} (h : SqL K H a xs) : TyX K H (.ref a) (.type "list") := by
  rcases h with (h | ⟨o, h⟩) | ⟨o, its, n, h1, h2, _⟩
  · exact .base (.lst h)
  · exact .base (.frz h)
  · exact .kList h1 h2
theorem ty_of_t {K : PySem.W.Frag} {H : Hp} {a : Addr} {xs : List V} (h : SqT K H a xs) : TyX K H (.ref a) (.type "tuple") := by
  rcases h with (h | ⟨o, h⟩) | ⟨o, its, n, h1, h2, _⟩
  · exact .base (.tup h)
  · exact .fTuple h
  · exact .kTuple h1 h2
/-! ### what evaluates to what, for our own calls -/
section
variable {K : PySem.W.Frag} {σ : L2.St} {H H' : Hp} {ta tb te tx : TE} {t u : TT} {x y z v : V} {r : R2}
def SV (sp : Sp) (vs : List V) (H : Hp) (z : V) : Prop := ∀ H1, Ex H H1 → ∀ Q : VK, RetV z H1 Q → ∀ E : XK, sp vs H1 Q E
def SL (sp : Sp) (vs : List V) (H : Hp) (xs : List V) : Prop := ∀ H1, Ex H H1 → ∀ Q : VK, RetL xs H1 Q → ∀ E : XK, sp vs H1 Q E
theorem ev_cl {sp : Sp} {vs : List V} {E : XK} {ta : TA} (h : EvA ta σ H vs) (hs : SV sp vs H z) : Ev (tCl sp E ta) σ H z := fun H1 e Q q =>
  h H1 e _ fun H2 e2 => hs H2 (e.trans e2) Q (fun H3 e3 => q H3 (e2.trans e3)) E
theorem el_cl {sp : Sp} {vs xs : List V} {E : XK} {ta : TA} (h : EvA ta σ H vs) (hs : SL sp vs H xs) : EvL (tCl sp E ta) σ H xs := fun H1 e Q q =>
  h H1 e _ fun H2 e2 => hs H2 (e.trans e2) Q (fun p H3 hp e3 h3 => q p H3 (fresh_back e2 hp) (e2.trans e3) h3) E
theorem ev_mt {C a dx : Addr} {m : Str} {fs : List (Str × V)} {sp : Sp} {vs : List V} {E : XK} {tr : TA} (ho : Ev ta σ H (.ref a)) (hi : H a = some (.ins C dx fs)) (hm : fs.lookup m = none) (h : EvA tr σ H vs) (hs : SV sp (.ref a :: vs) H z) : Ev (tMt C m sp E ta tr) σ H z := fun H1 e Q q =>
  ho H1 e _ fun H2 e2 => ⟨a, dx, fs, rfl, e2 _ _ (e _ _ hi), hm, h H2 (e.trans e2) _ fun H3 e3 => hs H3 ((e.trans e2).trans e3) Q (fun H4 e4 => q H4 ((e2.trans e3).trans e4)) E⟩
theorem el_mt {C a dx : Addr} {m : Str} {fs : List (Str × V)} {sp : Sp} {vs xs : List V} {E : XK} {tr : TA} (ho : Ev ta σ H (.ref a)) (hi : H a = some (.ins C dx fs)) (hm : fs.lookup m = none) (h : EvA tr σ H vs) (hs : SL sp (.ref a :: vs) H xs) : EvL (tMt C m sp E ta tr) σ H xs := fun H1 e Q q =>
  ho H1 e _ fun H2 e2 => ⟨a, dx, fs, rfl, e2 _ _ (e _ _ hi), hm, h H2 (e.trans e2) _ fun H3 e3 => hs H3 ((e.trans e2).trans e3) Q (fun p H4 hp e4 h4 => q p H4 (fresh_back e2 (fresh_back e3 hp)) ((e2.trans e3).trans e4) h4) E⟩
theorem ev_fld {C a dx : Addr} {f : Str} {fs : List (Str × V)} (ho : Ev ta σ H (.ref a)) (hi : H a = some (.ins C dx fs)) (cl : Cls K C) (na : NoAttr K C f) (hl : fs.lookup f = some v) : Ev (tFld K ta f) σ H v := fun H1 e Q q =>
  ho H1 e _ fun H2 e2 => ⟨a, C, dx, fs, v, rfl, e2 _ _ (e _ _ hi), cl, na, hl, q H2 e2⟩
theorem ev_any {bs : List Bool} (h : EvL te σ H (bs.map V.bl)) : Ev (tCB (rAny K) (tCons te tNil)) σ H (.bl (bs.any id)) := fun H1 e Q q =>
  h H1 e _ fun p H2 _ e2 hp => ⟨p, bs, rfl, sq_of hp, q H2 e2⟩
theorem ev_all {bs : List Bool} (h : EvL te σ H (bs.map V.bl)) : Ev (tCB (rAll K) (tCons te tNil)) σ H (.bl (bs.all id)) := fun H1 e Q q =>
  h H1 e _ fun p H2 _ e2 hp => ⟨p, bs, rfl, sq_of hp, q H2 e2⟩
theorem ev_chain {r r' : R2} {tc : TE} {a b : Bool} (ha : Ev ta σ H x) (hb : Ev tb σ H y) (h1 : RV r x y H (.bl a)) (hc : a = true → Ev tc σ H z) (h2 : a = true → RV r' y z H (.bl b)) : Ev (tChain r r' ta tb tc) σ H (.bl (a && b)) := fun H1 e Q q =>
  ha H1 e _ fun H2 e2 => hb H2 (e.trans e2) _ fun H3 e3 => h1 H3 ((e.trans e2).trans e3) _ fun H4 e4 => ⟨a, rfl, by
    cases a with
    | true =>
      refine iteT ?_
      refine hc rfl H4 (((e.trans e2).trans e3).trans e4) _ fun H5 e5 => ?_
      exact h2 rfl H5 ((((e.trans e2).trans e3).trans e4).trans e5) Q fun H6 e6 => q H6 ((((e2.trans e3).trans e4).trans e5).trans e6)
    | false => exact iteF (q H4 ((e2.trans e3).trans e4))⟩
theorem ev_lenL {p : Addr} {xs : List V} (ha : Ev ta σ H (.ref p)) (h : SqL K H p xs) : Ev (tCB (fun xs H Q => ∃ p ys, xs = [V.ref p] ∧ (SqL K H p ys ∨ SqT K H p ys) ∧ Q (.int ys.length) H) (tCons ta tNil)) σ H (.int (xs.length : Int)) := fun H1 e Q q =>
  ha H1 e _ fun H2 e2 => ⟨p, xs, rfl, Or.inl (ex_l (e.trans e2) h), q H2 e2⟩
theorem ev_lenT {p : Addr} {xs : List V} (ha : Ev ta σ H (.ref p)) (h : SqT K H p xs) : Ev (tCB (fun xs H Q => ∃ p ys, xs = [V.ref p] ∧ (SqL K H p ys ∨ SqT K H p ys) ∧ Q (.int ys.length) H) (tCons ta tNil)) σ H (.int (xs.length : Int)) := fun H1 e Q q =>
  ha H1 e _ fun H2 e2 => ⟨p, xs, rfl, Or.inr (ex_t (e.trans e2) h), q H2 e2⟩
theorem ev_lenF {xs : List V} (ha : EvL ta σ H xs) : Ev (tCB (fun xs H Q => ∃ p ys, xs = [V.ref p] ∧ (SqL K H p ys ∨ SqT K H p ys) ∧ Q (.int ys.length) H) (tCons ta tNil)) σ H (.int (xs.length : Int)) := fun H1 e Q q =>
  ha H1 e _ fun p H2 _ e2 hp => ⟨p, xs, rfl, Or.inl (sq_of hp), q H2 e2⟩
theorem el_listL {p : Addr} {xs : List V} (ha : Ev ta σ H (.ref p)) (h : SqL K H p xs) : EvL (tCB (fun xs H Q => ∃ p ys, xs = [V.ref p] ∧ (SqL K H p ys ∨ SqT K H p ys) ∧ ∀ l, H l = none → Q (.ref l) (upd H l (.lst ys))) (tCons ta tNil)) σ H xs := fun H1 e Q q =>
  ha H1 e _ fun H2 e2 => ⟨p, xs, rfl, Or.inl (ex_l (e.trans e2) h), fun l hl => q l _ (fresh_back e2 hl) (e2.trans (Ex.new hl)) upd_same⟩
theorem given_all (n : Nat) (v : Nat → V) : given n (fun _ => true) v = (List.range n).map v := by
  unfold given
  rw [List.filter_eq_self.mpr (fun _ _ => rfl)]
theorem yes_ok {σ : L2.St} {H : Hp} : EvT tYes σ H true := fun H1 _ _ q => q H1 (Ex.refl H1)
/-- [e for x in xs], all, by places -/
theorem el_map {a : Addr} {xs : List V} {tl : TE} {j : Nat} {vs : List Nat} (v : Nat → V) (h : Ev tl σ H (.ref a)) (hx : SqL K H a xs) (hz : xs.length ≤ 40000) (hw : ∀ x, wipe ((wipe σ vs).set j (some x)) vs = wipe σ vs)
    (he : ∀ (i : Nat) (x : V) H1, Ex H H1 → xs[i]? = some x → Ev te ((wipe σ vs).set j (some x)) H1 (v i)) : EvL (tLc (iList K tl) (gName j) tYes te vs) σ H ((List.range xs.length).map v) := by
  rw [← given_all]
  exact el_lcL (fun _ => true) v h hx hz hw (fun _ _ _ _ _ => yes_ok) (fun i x H1 e hi _ => he i x H1 e hi)
theorem el_mapT {a : Addr} {xs : List V} {tl : TE} {j : Nat} {vs : List Nat} (v : Nat → V) (h : Ev tl σ H (.ref a)) (hx : SqT K H a xs) (hz : xs.length ≤ 40000) (hw : ∀ x, wipe ((wipe σ vs).set j (some x)) vs = wipe σ vs)
    (he : ∀ (i : Nat) (x : V) H1, Ex H H1 → xs[i]? = some x → Ev te ((wipe σ vs).set j (some x)) H1 (v i)) : EvL (tLc (iTup K tl) (gName j) tYes te vs) σ H ((List.range xs.length).map v) := by
  rw [← given_all]
  exact fun H0 e Q q => h H0 e _ fun H1 e1 => ⟨a, rfl, ⟨xs, ex_t (e.trans e1) hx⟩, fun Dl hD =>
    lc_tup (xs := xs) (Cw H1 (fun _ => true) v Dl) ⟨hD, Ex.new hD, upd_same⟩ (fun i H' _ p => ex_t ((e.trans e1).trans p.2.1) hx) (fun i x H' hi p => ⟨hw x, cw_turn p (by have := (List.getElem?_eq_some_iff.mp hi).1; omega) yes_ok (fun _ => he i x H1 (e.trans e1) hi)⟩)
      (fun H' p => q Dl H' (fresh_back e1 p.1) (e1.trans p.2.1) p.2.2)⟩
/-- [e for x, y in zip(a, b)], all -/
theorem el_mapZ {ta : TA} {a : Addr} {xs ys : List V} {j1 j2 n : Nat} {vs : List Nat} (v : Nat → V) (hA : ∀ H1, Ex H H1 → ∀ Q : List V → Hp → Prop, (∀ b H2, Ex H1 H2 → SqL K H2 b ys → Q [.ref a, .ref b] H2) → ta σ H1 Q) (hx : SqL K H a xs)
    (hn : n ≤ xs.length ∧ n ≤ ys.length ∧ (xs.length ≤ n ∨ ys.length ≤ n)) (hz : n ≤ 40000) (hw : ∀ x y, wipe (((wipe σ vs).set j1 (some x)).set j2 (some y)) vs = wipe σ vs)
    (he : ∀ (i : Nat) (x y : V) H1, Ex H H1 → xs[i]? = some x → ys[i]? = some y → Ev te (((wipe σ vs).set j1 (some x)).set j2 (some y)) H1 (v i)) : EvL (tLc (iZip K ta) (gTup K 2 (gCons (gName j1) (gCons (gName j2) gNil))) tYes te vs) σ H ((List.range n).map v) := by
  rw [← given_all]
  intro H0 e Q q
  refine hA H0 e _ fun b H1 e1 hy => ⟨a, b, xs, ys, rfl, ex_l (e.trans e1) hx, hy, fun D hD => ?_⟩
  refine ⟨fun i m H' => m = n - i ∧ i ≤ n ∧ Cw H1 (fun _ => true) v D i H', ⟨n, by simp, Nat.zero_le _, hD, Ex.new hD, upd_same⟩, ?_⟩
  rintro i m H' ⟨rfl, hi, p⟩
  have hxs : SqL K H' a xs := ex_l ((e.trans e1).trans p.2.1) hx
  have hys : SqL K H' b ys := ex_l p.2.1 hy
  by_cases hlt : i < n
  · have gx : xs[i]? = some xs[i] := List.getElem?_eq_getElem (by omega)
    have gy : ys[i]? = some ys[i] := List.getElem?_eq_getElem (by omega)
    refine .inr ⟨⟨xs, ys, _, _, hxs, hys, gx, gy⟩, Cw H1 (fun _ => true) v D (i + 1), fun H2 p2 => ⟨n - (i + 1), by omega, rfl, hlt, p2⟩, ?_⟩
    rintro z H2 ⟨T, x, y, rfl, hT, rfl, fx, fy⟩
    have ex := Option.some.inj ((fx _ hxs).symm.trans gx)
    have ey := Option.some.inj ((fy _ hys).symm.trans gy)
    subst ex ey
    have pT : Cw H1 (fun _ => true) v D i (upd H' T (.tup [xs[i], ys[i]])) := ⟨p.1, p.2.1.trans (Ex.new hT), (Ex.new hT) _ _ p.2.2⟩
    refine ⟨T, _, rfl, .inl (.inl upd_same), rfl, _, _, rfl, _, _, rfl, rfl, hw _ _, ?_⟩
    exact cw_turn pT (by omega) yes_ok (fun _ => he i _ _ H1 (e.trans e1) gx gy)
  · have hin : i = n := by omega
    subst hin
    refine .inl ⟨⟨xs, ys, hxs, hys, by omega⟩, ?_⟩
    exact q D H' (fresh_back e1 p.1) (e1.trans p.2.1) p.2.2
end
end Lf
end
section
set_option Elab.async false
set_option linter.all false
set_option maxRecDepth 100000
set_option maxHeartbeats 4000000
/-! the rules with the fragment named (a block's rule must not speak of the block) -/
namespace Lf
open PySem PySem.Spec PyProof.Rows L2
section
variable {X : Cx} {K : PySem.W.Frag}
theorem kop {r : PySem.W.Frag → R2} {f : Value → Value → Sem Value} (h : OpR X f (r X.K)) (e : X.K = K) : OpR X f (r K) := by
  subst e
  exact h
theorem kix {r : PySem.W.Frag → R2} (h : IxR X (r X.K)) (e : X.K = K) : IxR X (r K) := by
  subst e
  exact h
theorem kcr {r : PySem.W.Frag → List V → Hp → VK → Prop} {f : Value} (h : CallR X f (r X.K)) (e : X.K = K) : CallR X f (r K) := by
  subst e
  exact h
theorem ksl {r : PySem.W.Frag → V → Option Int → Option Int → Hp → VK → Prop} (h : SlR X (r X.K)) (e : X.K = K) : SlR X (r K) := by
  subst e
  exact h
theorem kget {r : PySem.W.Frag → V → V → Hp → VK → Prop} (h : PGet X (r X.K)) (e : X.K = K) : PGet X (r K) := by
  subst e
  exact h
def rLen (K : PySem.W.Frag) : List V → Hp → VK → Prop := fun xs H Q => ∃ p ys, xs = [V.ref p] ∧ (SqL K H p ys ∨ SqT K H p ys) ∧ Q (.int ys.length) H
def rLst (K : PySem.W.Frag) : List V → Hp → VK → Prop := fun xs H Q => ∃ p ys, xs = [V.ref p] ∧ (SqL K H p ys ∨ SqT K H p ys) ∧ ∀ l, H l = none → Q (.ref l) (upd H l (.lst ys))
def rTpl (K : PySem.W.Frag) : List V → Hp → VK → Prop := fun xs H Q => ∃ p ys, xs = [V.ref p] ∧ ((SqL K H p ys ∧ ∀ l, H l = none → Q (.ref l) (upd H l (.tup ys))) ∨ (SqT K H p ys ∧ Q (.ref p) H))
theorem k_len (e : X.K = K) : CallR X (.builtin "len") (rLen K) := by
  subst e
  exact call_len_seq
theorem k_lst (e : X.K = K) : CallR X (.type "list") (rLst K) := by
  subst e
  exact call_list_of
theorem k_tpl (e : X.K = K) : CallR X (.type "tuple") (rTpl K) := by
  subst e
  exact call_tuple_of
variable {e o : Expr} {es : List Expr} {pos apos cpos : Pos} {f name : Str} {ta to te : TE} {t : TA} {T id : String} {tg : Expr}
theorem k_fld (k : X.K = K) (he : PE X e ta) (hb : attributeBase e f X.env (eval e X.env) = eval e X.env) : PE X (.Attribute e f pos) (tFld K ta f) := by
  subst k
  exact pe_fld he hb
theorem k_bm0 {r : V → List V → Hp → VK → Prop} (k : X.K = K) (pa : PlainAttrs T) (slot : Slot T name id) (hty : typeOf (.builtin id) = pure (.type "method_descriptor")) (hm : MtR X id r) (ho : PE X o to)
    (hbase : attributeBase o name X.env (eval o X.env) = eval o X.env := by rfl) (hline : (apos.endLine == cpos.line) = true := by rfl) : PE X (.Call (.Attribute o name apos) [] [] cpos) (tBM0 K T r to) := by
  subst k
  exact pe_bm0 pa slot hty hm ho hbase hline
theorem k_bm {r : V → List V → Hp → VK → Prop} (k : X.K = K) (pa : PlainAttrs T) (slot : Slot T name id) (hty : typeOf (.builtin id) = pure (.type "method_descriptor")) (hm : MtR X id r) (ho : PE X o to) (ha : PA X (e :: es) t)
    (hbase : attributeBase o name X.env (eval o X.env) = eval o X.env := by rfl)
    (hfew : ((backTo cpos (starEach (e :: es) X.env)).all (fun x => !x.1) && (backToKw cpos (keywordEach [] X.env)).all (fun x => x.1.isSome)
      && decide ((e :: es).length + ([] : List Keyword).length + (if ([] : List Keyword).isEmpty then 0 else 1) < 30)) = true := by rfl)
    (hline : (apos.endLine == cpos.line) = true := by rfl) (hs : starEach (e :: es) X.env = (false, eval e X.env) :: starEach es X.env := by rfl) (hplain : (backTo cpos (starEach es X.env)).any (·.1) = false := by rfl) :
    PE X (.Call (.Attribute o name apos) (e :: es) [] cpos) (tBM K T r to t) := by
  subst k
  exact pe_bm pa slot hty hm ho ha hbase hfew hline hs hplain
theorem k_list {l : Expr} {tl : TE} (k : X.K = K) (hl : PE X l tl) : PI X tg l (iList K tl) := by
  subst k
  exact pi_list hl
theorem k_tup {l : Expr} {tl : TE} (k : X.K = K) (hl : PE X l tl) : PI X tg l (iTup K tl) := by
  subst k
  exact pi_tup hl
theorem k_gtup {es : List Expr} {kk : Nat} {t : TGs} {n : Nat} (k : X.K = K) (hc : X.calm = true) (h : PGs X es t)
    (hn : (assignEach es X.env).length = n := by rfl) (hst : (assignEach es X.env).findIdx? (·.1) = none := by rfl) : PG X (.Tuple es kk pos) (gTup K n t) := by
  subst k
  exact pg_tup hc h hn hst
theorem k_revL {p1 p2 p3 : Pos} {kk : Nat} (k : X.K = K) (he : PE X e te) : PE X (.Subscript e (.Slice none none (some (.UnaryOp .USub (.Constant (.int 1) kk p1) p2)) p3) pos) (tRevL K te) := by
  subst k
  exact pe_revL he
def tTr (K : PySem.W.Frag) (ta : TE) : TT := fun σ H Q => ta σ H fun x H' => ∃ k, TruV K x H' k ∧ Q k H'
theorem k_truth (k : X.K = K) (h : PE X e ta) (he : ∀ whole, isTrue e X.env whole = (do let v ← whole; standAt e.pos; holding [v] (truthy v))) : PT X e (tTr K ta) := by
  subst k
  exact pt_truth h he
theorem k_enum {p tpos : Pos} {elts : List Expr} {kk : Nat} (k : X.K = K) (hg : Gl X "enumerate") (hm : X.mg "enumerate" = none) (ha : PA X [e] t) (hs : starEach [e] X.env = [(false, eval e X.env)] := by rfl) :
    PI X (.Tuple elts kk tpos) (.Call (.Name "enumerate" p) [e] [] pos) (iEnum K t) := by
  subst k
  exact pi_enum hg hm ha hs
theorem k_zip {p tpos : Pos} {elts : List Expr} {kk : Nat} {e2 : Expr} (k : X.K = K) (hg : Gl X "zip") (hm : X.mg "zip" = none) (ha : PA X [e, e2] t) (hs : starEach [e, e2] X.env = (false, eval e X.env) :: starEach [e2] X.env := by rfl)
    (hpl : (backTo pos (starEach [e2] X.env)).any (·.1) = false := by rfl) : PI X (.Tuple elts kk tpos) (.Call (.Name "zip" p) [e, e2] [] pos) (iZip K t) := by
  subst k
  exact pi_zip hg hm ha hs hpl
end
section
variable {K : PySem.W.Frag} {σ : L2.St} {H H' : Hp} {te : TE} {D : Ends} {tz : TS} {g : TG} {xs : List V} {v : V}
open Evl
theorem q_asgG (h : EvL te σ H xs) (k : ∀ p H1, H p = none → Ex H H1 → H1 p = some (.lst xs) → g (.ref p) σ H1 (tz D)) : tSeq (tAsg te g) tz D σ H := h H (Ex.refl H) _ k
theorem q_forE {a : Addr} {ys : List V} {ta : TA} {tu : TS} {j1 j2 : Nat} (h : EvA ta σ H [.ref a]) (hx : SqL K H a ys) (Pv : Nat → L2.St → Hp → Prop) (h0 : ∀ H1, Ex H H1 → Pv 0 σ H1) (hl : ∀ i σ' H', Pv i σ' H' → SqL K H' a ys)
    (st : ∀ i σ' H' T o, Pv i σ' H' → H' T = none → Pv i σ' (upd H' T o))
    (hs : ∀ (i : Nat) x σ' H', ys[i]? = some x → Pv i σ' H' → tu { D with nx := Pv (i + 1), ct := Pv (i + 1), bk := tz D } ((σ'.set j1 (some (.int (i : Int)))).set j2 (some x)) H') (hd : ∀ σ' H', Pv ys.length σ' H' → tz D σ' H') :
    tSeq (tFor (iEnum K ta) (gTup K 2 (gCons (gName j1) (gCons (gName j2) gNil))) tu) tz D σ H := by
  refine h H (Ex.refl H) _ fun H1 e => ⟨a, ys, rfl, ex_l e hx, ?_⟩
  refine ⟨fun i m σ H => m = ys.length - i ∧ i ≤ ys.length ∧ Pv i σ H, ⟨ys.length, by simp, Nat.zero_le _, h0 H1 e⟩, ?_⟩
  rintro i m σ' H' ⟨rfl, hi, p⟩
  have hq := hl i σ' H' p
  by_cases hlt : i < ys.length
  · have gy : ys[i]? = some ys[i] := List.getElem?_eq_getElem hlt
    refine .inr ⟨⟨ys, _, hq, gy⟩, Pv (i + 1), fun σ2 H2 p2 => ⟨ys.length - (i + 1), by omega, rfl, hlt, p2⟩, ?_⟩
    rintro z H2 ⟨T, x, rfl, hT, rfl, fx⟩
    have ex := Option.some.inj ((fx _ hq).symm.trans gy)
    subst ex
    exact ⟨T, _, rfl, .inl (.inl upd_same), rfl, _, _, rfl, _, _, rfl, rfl, hs i _ σ' _ gy (st _ _ _ _ _ p hT)⟩
  · have e1 : i = ys.length := by omega
    subst e1
    exact .inl ⟨⟨ys, hq, Nat.le_refl _⟩, hd _ _ p⟩
theorem q_asgV (h : Ev te σ H v) (k : ∀ H1, Ex H H1 → g v σ H1 (tz D)) : tSeq (tAsg te g) tz D σ H := h H (Ex.refl H) _ k
end
end Lf
end
section
set_option Elab.async false
set_option linter.all false
set_option maxRecDepth 100000
set_option maxHeartbeats 4000000
/-! Lw: the bag of draws, and what a draw leaves. -/
namespace Lf
open PySem PySem.Spec PyProof.Rows L2
open Evl
/-- the bag at b: what is left of a cell, the stirred number, how many cells were taken, the cells -/
def Bag (H : Hp) (b : Addr × Addr) : Prop := ∃ (x y z : Int) (ns : List Int), H b.1 = some (.lst [.int x, .int y, .int z, .ref b.2]) ∧ H b.2 = some (.lst (ns.map V.int)) ∧ 0 ≤ x ∧ (0 ≤ y ∧ y < 2147483647) ∧ 0 ≤ z ∧ ∀ n ∈ ns, 0 ≤ n
def spTake : Sp := fun vs H Q _ => ∃ (b : Addr × Addr) (many : Int), vs = [.ref b.1, .int many] ∧ Bag H b ∧ (0 < many ∧ many < 1073741824) ∧ ∀ v H', 0 ≤ v → v < many → Bag H' b → (∀ a, a ≠ b.1 → H' a = H a) → Q (.int v) H'
/-- all but the bag -/
def mask (b : Addr) (H : Hp) : Hp := fun a => if a = b then none else H a
theorem mask_at {b a : Addr} {H : Hp} (h : a ≠ b) : mask b H a = H a := if_neg h
theorem mask_self {b : Addr} {H : Hp} : mask b H b = none := if_pos rfl
theorem mask_le (b : Addr) (H : Hp) : Ex (mask b H) H := fun a o h => by
  by_cases e : a = b
  · subst e
    rw [mask_self] at h
    cases h
  · rw [mask_at e] at h
    exact h
theorem mask_ex {b : Addr} {H H' : Hp} (e : Ex H H') : Ex (mask b H) (mask b H') := fun a o h => by
  by_cases q : a = b
  · subst q
    rw [mask_self] at h
    cases h
  · rw [mask_at q] at h
    rw [mask_at q]
    exact e _ _ h
theorem mask_same {b : Addr} {H H' : Hp} (e : ∀ a, a ≠ b → H' a = H a) : Ex (mask b H) (mask b H') := fun a o h => by
  by_cases q : a = b
  · subst q
    rw [mask_self] at h
    cases h
  · rw [mask_at q] at h
    rw [mask_at q, e a q]
    exact h
theorem Bag.ex {b : Addr × Addr} {H H' : Hp} (h : Bag H b) (e : Ex H H') : Bag H' b := by
  obtain ⟨x, y, z, ns, h1, h2, h3⟩ := h
  exact ⟨x, y, z, ns, e _ _ h1, e _ _ h2, h3⟩
theorem Bag.ne {b : Addr × Addr} {p : Addr} {H : Hp} (h : Bag H b) (hp : H p = none) : p ≠ b.1 := by
  obtain ⟨x, y, z, ns, h1, _⟩ := h
  rintro rfl
  rw [h1] at hp
  cases hp
theorem Bag.ne2 {b : Addr × Addr} {p : Addr} {H : Hp} (h : Bag H b) (hp : H p = none) : p ≠ b.2 := by
  obtain ⟨x, y, z, ns, _, h1, _⟩ := h
  rintro rfl
  rw [h1] at hp
  cases hp
/-- what a stretch with draws leaves: the bag is one still, all else is kept -/
def Step (b : Addr × Addr) (H H' : Hp) : Prop := Bag H' b ∧ Ex (mask b.1 H) (mask b.1 H')
theorem Step.refl {b : Addr × Addr} {H : Hp} (h : Bag H b) : Step b H H := ⟨h, Ex.refl _⟩
theorem Step.trans {b : Addr × Addr} {H H1 H2 : Hp} (h : Step b H H1) (h' : Step b H1 H2) : Step b H H2 := ⟨h'.1, h.2.trans h'.2⟩
theorem Step.pure {b : Addr × Addr} {H H' : Hp} (h : Bag H b) (e : Ex H H') : Step b H H' := ⟨h.ex e, mask_ex e⟩
theorem Step.draw {b : Addr × Addr} {H H' : Hp} (h : Bag H' b) (e : ∀ a, a ≠ b.1 → H' a = H a) : Step b H H' := ⟨h, mask_same e⟩
theorem Step.at {b : Addr × Addr} {a : Addr} {H H' : Hp} {o : HO} (h : Step b H H') (hn : a ≠ b.1) (ha : H a = some o) : H' a = some o := by
  have := h.2 a o (by rw [mask_at hn]; exact ha)
  rw [mask_at hn] at this
  exact this
theorem Step.free {b : Addr × Addr} {p : Addr} {H H' : Hp} (h : Step b H H') (hp : H' p = none) : H p = none := by
  have hn := h.1.ne hp
  cases q : H p with
  | none => rfl
  | some o =>
    rw [h.at hn q] at hp
    cases hp
/-- a list of one's own is changed -/
theorem Step.put {b : Addr × Addr} {p : Addr} {H H' : Hp} {o : HO} (h : Step b H H') (hb : Bag H b) (hp : H p = none) : Step b H (upd H' p o) := by
  have hn := hb.ne hp
  have hn2 := hb.ne2 hp
  refine ⟨?_, fun a u ha => ?_⟩
  · obtain ⟨x, y, z, ns, h1, h2, h3⟩ := h.1
    refine ⟨x, y, z, ns, ?_, ?_, h3⟩
    · rw [upd_ne hn.symm]
      exact h1
    · rw [upd_ne hn2.symm]
      exact h2
  · have hap : a ≠ p := by
      rintro rfl
      rw [mask_at hn, hp] at ha
      cases ha
    by_cases q : a = b.1
    · subst q
      rw [mask_self] at ha
      cases ha
    · rw [mask_at q, upd_ne hap]
      have := h.2 a u ha
      rw [mask_at q] at this
      exact this
theorem s_retLst4 {te : TE} {σ : L2.St} {H : Hp} {xs : List V} {x y z : V} {D : Ends} (h : EvL te σ H xs) (k : ∀ c H1, H c = none → Ex H H1 → H1 c = some (.lst xs) → ∀ p, H1 p = none → D.rt (.ref p) (upd H1 p (.lst [x, y, z, .ref c]))) :
    tRet (tLst (tCons (tC x) (tCons (tC y) (tCons (tC z) (tCons te tNil))))) D σ H := h H (Ex.refl H) _ fun c H1 c0 e hc => ⟨(by show 4 ≤ sizeLine; decide), fun p hp => k c H1 c0 e hc p hp⟩
/-! ### tests with some answer -/
def TAny (R : Hp → Hp → Prop) (tt : TT) (σ : L2.St) (H : Hp) : Prop := ∀ Q : Bool → Hp → Prop, (∀ c H2, R H H2 → Q c H2) → tt σ H Q
section
variable {b : Addr × Addr} {σ : L2.St} {H : Hp} {t u : TT} {D : Ends} {ta tb : TS}
theorem tany_ev {c : Bool} (hb : Bag H b) (h : EvT t σ H c) : TAny (Step b) t σ H := fun Q q => h H (Ex.refl H) Q fun H2 e => q c H2 (.pure hb e)
theorem tany_or (h1 : TAny (Step b) t σ H) (h2 : ∀ H2, Step b H H2 → TAny (Step b) u σ H2) : TAny (Step b) (tOr t u) σ H := fun Q q => h1 _ fun c H2 s => by
  cases c with
  | true => exact iteT (q true H2 s)
  | false => exact iteF (h2 H2 s Q fun c H3 s3 => q c H3 (s.trans s3))
theorem tany_and (h1 : TAny (Step b) t σ H) (h2 : ∀ H2, Step b H H2 → TAny (Step b) u σ H2) : TAny (Step b) (tAnd t u) σ H := fun Q q => h1 _ fun c H2 s => by
  cases c with
  | true => exact iteT (h2 H2 s Q fun c H3 s3 => q c H3 (s.trans s3))
  | false => exact iteF (q false H2 s)
theorem s_any (h : TAny (Step b) t σ H) (k : ∀ H2, Step b H H2 → ta D σ H2 ∧ tb D σ H2) : tIfS t ta tb D σ H := h _ fun c H2 s => by
  cases c with
  | true => exact (k H2 s).1
  | false => exact (k H2 s).2
end
end Lf
end
section
set_option Elab.async false
set_option linter.all false
set_option maxRecDepth 100000
set_option maxHeartbeats 4000000
/-! Lt: draws of any size, and what is evaluated amid draws, up to a word of the value. -/
namespace Lf
open PySem PySem.Spec PyProof.Rows L2
open Evl
theorem divW {i j : Int} (h0 : 0 < j) (h : j ≤ 1000000000000000000000000000000) : CDivW i j := wide_div (b := 100) h0 (by
  have e : (2 : Nat) ^ 100 = 1267650600228229401496703205376 := by decide
  rw [e]
  omega) (by decide) (by decide)
def spTk : Sp := fun vs H Q _ => ∃ (b : Addr × Addr) (many : Int), vs = [.ref b.1, .int many] ∧ Bag H b ∧ (0 < many ∧ many ≤ 1000000000000000000000000000000) ∧ ∀ v H', 0 ≤ v → v < many → Bag H' b → (∀ a, a ≠ b.1 → H' a = H a) → Q (.int v) H'
def spBag (K : PySem.W.Frag) : Sp := fun vs H Q _ => ∃ (a : Addr) (ns : List Int), vs = [.ref a] ∧ SqL K H a (ns.map V.int) ∧ ns.length ≤ 63 ∧ ∀ (b : Addr × Addr) (H' : Hp), Ex H H' → H b.1 = none → Bag H' b → Q (.ref b.1) H'
def spLaw (K : PySem.W.Frag) : Sp := fun vs H Q _ => ∃ (a : Addr) (ns : List Int), vs = [.ref a] ∧ SqL K H a (ns.map V.int) ∧ ns.length ≤ 63 ∧ ∀ H', Q (.bl true) H'
/-- e gives an int of which p, with draws -/
def Dr (b : Addr × Addr) (te : TE) (σ : L2.St) (H : Hp) (P : V → Prop) : Prop := ∀ H1, Step b H H1 → ∀ Q : VK, (∀ v H2, Step b H1 H2 → P v → Q v H2) → te σ H1 Q
def DrI (b : Addr × Addr) (te : TE) (σ : L2.St) (H : Hp) (p : Int → Prop) : Prop := ∀ H1, Step b H H1 → ∀ Q : VK, (∀ (i : Int) H2, Step b H1 H2 → p i → Q (.int i) H2) → te σ H1 Q
def DrA (b : Addr × Addr) (ta : TA) (σ : L2.St) (H : Hp) (P : List V → Prop) : Prop := ∀ H1, Step b H H1 → ∀ Q : List V → Hp → Prop, (∀ vs H2, Step b H1 H2 → P vs → Q vs H2) → ta σ H1 Q
section
variable {K : PySem.W.Frag} {b : Addr × Addr} {σ : L2.St} {H H' : Hp} {ta tb te tx : TE} {P P' : V → Prop} {p q r : Int → Prop}
theorem DrI.mono (s : Step b H H') (h : DrI b te σ H p) : DrI b te σ H' p := fun H1 s1 Q q => h H1 (s.trans s1) Q q
theorem Dr.mono (s : Step b H H') (h : Dr b te σ H P) : Dr b te σ H' P := fun H1 s1 Q q => h H1 (s.trans s1) Q q
theorem DrI.imp (h : DrI b te σ H p) (k : ∀ i, p i → q i) : DrI b te σ H q := fun H1 s1 Q w => h H1 s1 Q fun i H2 s2 e => w i H2 s2 (k i e)
theorem dri_of (h : Dr b te σ H fun v => ∃ i, v = .int i ∧ p i) : DrI b te σ H p := fun H1 s Q k => h H1 s Q fun v H2 s2 ⟨i, e, pi⟩ => by
  subst e
  exact k i H2 s2 pi
theorem DrI.dr (h : DrI b te σ H p) : Dr b te σ H fun v => ∃ i, v = .int i ∧ p i := fun H1 s Q k => h H1 s Q fun i H2 s2 pi => k _ H2 s2 ⟨i, rfl, pi⟩
theorem dri_c {i : Int} (h : p i) : DrI b (tC (.int i)) σ H p := fun H1 s Q k => k i H1 (.refl s.1) h
theorem dri_var {i : Int} {n : Nat} (hn : σ[n]? = some (some (.int i))) (h : p i) : DrI b (tVar n) σ H p := fun H1 s Q k => ⟨_, hn, k i H1 (.refl s.1) h⟩
theorem dri_take {E : XK} {n : Nat} {tm : TE} (hn : σ[n]? = some (some (.ref b.1))) (hm : DrI b tm σ H fun m => (0 < m ∧ m ≤ 1000000000000000000000000000000) ∧ ∀ v, 0 ≤ v → v < m → p v) : DrI b (tCl spTk E (tCons (tVar n) (tCons tm tNil))) σ H p := fun H1 s Q k =>
  ⟨_, hn, hm H1 s _ fun m H2 s2 ⟨⟨h0, h1⟩, hp⟩ => ⟨b, m, rfl, s2.1, ⟨h0, h1⟩, fun v H3 v0 v1 b3 d3 => k v H3 (s2.trans (.draw b3 d3)) (hp v v0 v1)⟩⟩
theorem dri_tk {E : XK} {n : Nat} {m : Int} (hn : σ[n]? = some (some (.ref b.1))) (h0 : 0 < m) (h1 : m ≤ 1000000000000000000000000000000) : DrI b (tCl spTk E (tCons (tVar n) (tCons (tC (.int m)) tNil))) σ H fun x => 0 ≤ x ∧ x < m := dri_take hn (dri_c ⟨⟨h0, h1⟩, fun _ v0 v1 => ⟨v0, v1⟩⟩)
theorem dri_tkv {E : XK} {n j : Nat} {m : Int} (hn : σ[n]? = some (some (.ref b.1))) (hj : σ[j]? = some (some (.int m))) (h0 : 0 < m) (h1 : m ≤ 1000000000000000000000000000000) : DrI b (tCl spTk E (tCons (tVar n) (tCons (tVar j) tNil))) σ H fun x => 0 ≤ x ∧ x < m := dri_take hn (dri_var hj ⟨⟨h0, h1⟩, fun _ v0 v1 => ⟨v0, v1⟩⟩)
theorem dri_I0 {g : Int → Int → Int} (h1 : DrI b ta σ H p) (h2 : DrI b tb σ H q) (h : ∀ i j, p i → q j → r (g i j)) : DrI b (tOp (rI0 fun i j => .int (g i j)) ta tb) σ H r := fun H1 s Q k =>
  h1 H1 s _ fun i H2 s2 pi => h2 H2 (s.trans s2) _ fun j H3 s3 qj => ⟨i, j, rfl, rfl, k _ H3 (s2.trans s3) (h i j pi qj)⟩
theorem dri_I {C : Int → Int → Prop} {g : Int → Int → Int} (h1 : DrI b ta σ H p) (h2 : DrI b tb σ H q) (h : ∀ i j, p i → q j → C i j ∧ r (g i j)) : DrI b (tOp (rI C fun i j => .int (g i j)) ta tb) σ H r := fun H1 s Q k =>
  h1 H1 s _ fun i H2 s2 pi => h2 H2 (s.trans s2) _ fun j H3 s3 qj => ⟨i, j, rfl, rfl, (h i j pi qj).1, k _ H3 (s2.trans s3) (h i j pi qj).2⟩
theorem dri_neg (h1 : DrI b ta σ H p) (h : ∀ i, p i → r (-i)) : DrI b (tUn (rU fun i => .int (-i)) ta) σ H r := fun H1 s Q k => h1 H1 s _ fun i H2 s2 pi => ⟨i, rfl, k _ H2 s2 (h i pi)⟩
/-- items of a display, each of which P -/
theorem dra_nil {n : Nat} (h : n = 0) : DrA b tNil σ H fun vs => vs.length = n ∧ ∀ v ∈ vs, P v := fun H1 s Q k => k [] H1 (.refl s.1) ⟨h ▸ rfl, fun v hv => by simp at hv⟩
theorem dra_cons {n : Nat} {ta : TA} (h : Dr b te σ H P) (ht : DrA b ta σ H fun vs => vs.length = n ∧ ∀ v ∈ vs, P v) : DrA b (tCons te ta) σ H fun vs => vs.length = n + 1 ∧ ∀ v ∈ vs, P v := fun H1 s Q k =>
  h H1 s _ fun v H2 s2 pv => ht H2 (s.trans s2) _ fun vs H3 s3 ⟨hl, hp⟩ => k (v :: vs) H3 (s2.trans s3) ⟨by rw [List.length_cons, hl], fun u hu => by
    rcases List.mem_cons.mp hu with rfl | hu
    · exact pv
    · exact hp u hu⟩
theorem atI_in {xs : List V} {i : Int} (h0 : 0 ≤ i) (h1 : i < xs.length) : ∃ v, atI xs i = some v ∧ v ∈ xs := by
  obtain ⟨n, rfl⟩ := Int.eq_ofNat_of_zero_le h0
  have hn : n < xs.length := by omega
  exact ⟨xs[n], atI_nat (by rw [List.getElem?_eq_getElem hn]), List.getElem_mem hn⟩
/-- [a, b, ..][i] -/
theorem dr_pick {n : Nat} {ta : TA} (h : DrA b ta σ H fun vs => vs.length = n ∧ ∀ v ∈ vs, P v) (hi : DrI b tb σ H fun i => 0 ≤ i ∧ i < n) (hn : n ≤ 1000) : Dr b (tOp (rIxL K) (tLst ta) tb) σ H P := fun H1 s Q k =>
  h H1 s _ fun vs H2 s2 ⟨hl, hp⟩ => ⟨Nat.le_trans (by rw [hl]; exact hn) (by decide : (1000 : Nat) ≤ sizeLine), fun l hl0 => hi _ ((s.trans s2).trans (.pure s2.1 (Ex.new hl0))) _ fun i H3 s3 ⟨i0, i1⟩ => by
    have nl : l ≠ b.1 := s2.1.ne hl0
    have hl3 : H3 l = some (.lst vs) := s3.at nl upd_same
    obtain ⟨v, e, hv⟩ := atI_in (xs := vs) i0 (by rw [hl]; exact i1)
    exact ⟨l, vs, i, v, rfl, rfl, sq_of hl3, e, k v H3 ((s2.trans (.pure s2.1 (Ex.new hl0))).trans s3) (hp v hv)⟩⟩
theorem dri_pick {n : Nat} {ta : TA} (h : DrA b ta σ H fun vs => vs.length = n ∧ ∀ v ∈ vs, ∃ i, v = .int i ∧ p i) (hi : DrI b tb σ H fun i => 0 ≤ i ∧ i < n) (hn : n ≤ 1000) : DrI b (tOp (rIxL K) (tLst ta) tb) σ H p := dri_of (dr_pick h hi hn)
theorem ev_dr {v : V} (h : Ev te σ H v) (hb : Bag H b) (hp : P v) (hs : ∀ H1, Step b H H1 → Ev te σ H1 v) : Dr b te σ H P := fun H1 s Q k => hs H1 s H1 (Ex.refl _) Q fun H2 e => k v H2 (.pure s.1 e) hp
variable {D : Ends} {tz : TS} {g : TG}
theorem q_dri (hb : Bag H b) (h : DrI b te σ H p) (k : ∀ i H1, Step b H H1 → p i → g (.int i) σ H1 (tz D)) : tSeq (tAsg te g) tz D σ H := h H (.refl hb) _ k
theorem q_dr (hb : Bag H b) (h : Dr b te σ H P) (k : ∀ v H1, Step b H H1 → P v → g v σ H1 (tz D)) : tSeq (tAsg te g) tz D σ H := h H (.refl hb) _ k
end
end Lf
end
section
set_option Elab.async false
set_option linter.all false
set_option maxRecDepth 100000
set_option maxHeartbeats 4000000
/-! Wm: the mathematics of webs, and their data. -/
namespace Wm
open PySem PySem.Spec PyProof.Rows L2
open Evl
abbrev PS := List (Nat × Nat)
def dP (p : Nat × Nat) : PyData := .tuple [.int p.1, .int p.2]
def dPs (ps : PS) : PyData := .list (ps.map dP)
def dN (ns : List Nat) : PyData := .list (ns.map fun n : Nat => .int (n : Int))
def dNs (rows : List (List Nat)) : PyData := .list (rows.map dN)
def vN (ns : List Nat) : List V := ns.map fun n : Nat => V.int (n : Int)
def lexP (p q : Nat × Nat) : Bool := HT.lexLt [(p.1 : Int), p.2] [(q.1 : Int), q.2]
def lt2 (p q : Nat × Nat) : Prop := p.1 < q.1 ∨ (p.1 = q.1 ∧ p.2 < q.2)
def risesB (ps : PS) : Bool := ((List.range (ps.length - 1)).map fun i => lexP (ps.getD i (0, 0)) (ps.getD (i + 1) (0, 0))).all id
/-- pairs of so many places, the lesser first, rising -/
structure Good (many : Nat) (ps : PS) : Prop where
  m2 : 2 ≤ many
  m10 : many ≤ 10
  lt : ∀ p ∈ ps, p.1 < p.2 ∧ p.2 < many
  pw : ps.Pairwise lt2
  few : ps.length ≤ 1000
theorem lexP_of {p q : Nat × Nat} (h : lt2 p q) : lexP p q = true := by
  unfold lexP
  show (if (p.1 : Int) = q.1 then (if (p.2 : Int) = q.2 then HT.lexLt [] [] else decide ((p.2 : Int) < q.2)) else decide ((p.1 : Int) < q.1)) = true
  rcases h with h | ⟨h1, h2⟩
  · rw [if_neg (by omega), decide_eq_true (by omega)]
  · rw [if_pos (by omega), if_neg (by omega), decide_eq_true (by omega)]
theorem Good.rise {many : Nat} {ps : PS} (g : Good many ps) : risesB ps = true := by
  unfold risesB
  rw [List.all_map, List.all_eq_true]
  intro i hi
  have hi := List.mem_range.mp hi
  have h1 : i < ps.length := by omega
  have h2 : i + 1 < ps.length := by omega
  show lexP (ps.getD i (0, 0)) (ps.getD (i + 1) (0, 0)) = true
  rw [List.getD_eq_getElem?_getD, List.getD_eq_getElem?_getD, List.getElem?_eq_getElem h1, List.getElem?_eq_getElem h2]
  exact lexP_of (List.pairwise_iff_getElem.mp g.pw i (i + 1) h1 h2 (Nat.lt_succ_self i))
def rowOf (ps : PS) (i : Nat) : List Nat := ps.filterMap fun p => if p.1 = i then some p.2 else if p.2 = i then some p.1 else none
def nearOf (many : Nat) (ps : PS) : List (List Nat) := (List.range many).map (rowOf ps)
def adj (ps : PS) (i j : Nat) : Bool := decide (j ∈ rowOf ps i)
def touch (ps : PS) (i j : Nat) : Bool := (rowOf ps i).any fun x => decide (x ∈ rowOf ps j)
def clash (ps : PS) (i j : Nat) : Bool := !decide (i = j) && (adj ps i j || touch ps i j)
/-! ### the least number that is not barred -/
theorem len_ge : ∀ (n : Nat) (b : List Nat), (∀ m, m < n → m ∈ b) → n ≤ b.length
  | 0, _, _ => Nat.zero_le _
  | n + 1, b, h => by
    have h1 := len_ge n (b.erase n) fun m hm => (List.mem_erase_of_ne (by omega)).mpr (h m (by omega))
    rw [List.length_erase_of_mem (h n (by omega))] at h1
    have := List.length_pos_of_mem (h n (by omega))
    omega
def leastFrom (b : List Nat) : Nat → Nat → Nat
  | 0, n => n
  | f + 1, n => if n ∈ b then leastFrom b f (n + 1) else n
def least (b : List Nat) : Nat := leastFrom b (b.length + 1) 0
theorem leastFrom_spec (b : List Nat) : ∀ (f n : Nat), b.length < f + n → (∀ m, m < n → m ∈ b) → leastFrom b f n ∉ b ∧ ∀ m, m < leastFrom b f n → m ∈ b
  | 0, n, hf, h => by have := len_ge n b h; omega
  | f + 1, n, hf, h => by
    unfold leastFrom
    by_cases e : n ∈ b
    · rw [if_pos e]
      exact leastFrom_spec b f (n + 1) (by omega) fun m hm => by
        by_cases q : m = n
        · exact q ▸ e
        · exact h m (by omega)
    · rw [if_neg e]
      exact ⟨e, h⟩
theorem least_not (b : List Nat) : least b ∉ b := (leastFrom_spec b (b.length + 1) 0 (by omega) (by omega)).1
theorem least_in (b : List Nat) : ∀ m, m < least b → m ∈ b := (leastFrom_spec b (b.length + 1) 0 (by omega) (by omega)).2
theorem least_le (b : List Nat) : least b ≤ b.length := len_ge _ b (least_in b)
theorem least_eq {b : List Nat} {n : Nat} (h1 : n ∉ b) (h2 : ∀ m, m < n → m ∈ b) : least b = n := by
  rcases Nat.lt_trichotomy n (least b) with h | h | h
  · exact absurd (least_in b n h) h1
  · exact h.symm
  · exact absurd (h2 _ h) (least_not b)
/-! ### slots -/
def slotsUpto (ps : PS) : Nat → List Nat
  | 0 => []
  | n + 1 => slotsUpto ps n ++ [least (((List.range n).filter fun l => clash ps l n).map fun l => (slotsUpto ps n).getD l 0)]
theorem slots_len (ps : PS) : ∀ n, (slotsUpto ps n).length = n
  | 0 => rfl
  | n + 1 => by
    show (slotsUpto ps n ++ _).length = n + 1
    rw [List.length_append, slots_len ps n]
    rfl
/-! ### values -/
theorem inV_nat (n : Nat) (b : List Nat) : inV (.int (n : Int)) (vN b) = decide (n ∈ b) := by
  unfold vN
  induction b with
  | nil => rfl
  | cons x r ih =>
    show (eqV (V.int (x : Int)) (.int (n : Int)) || inV (.int (n : Int)) (r.map fun n : Nat => V.int (n : Int))) = _
    rw [ih]
    by_cases e : n = x
    · subst e
      simp [eqV]
    · have e2 : ¬ ((x : Int) = (n : Int)) := fun q => e (by omega)
      simp [eqV, e, e2, List.mem_cons]
theorem vN_flat (b : List Nat) : (vN b).all flatV = true := by
  unfold vN
  induction b with
  | nil => rfl
  | cons x r ih => rw [List.map_cons, List.all_cons, ih]; rfl
theorem vN_len (b : List Nat) : (vN b).length = b.length := List.length_map ..
theorem vN_get {b : List Nat} {i n : Nat} (h : b[i]? = some n) : (vN b)[i]? = some (.int (n : Int)) := by
  unfold vN
  rw [List.getElem?_map, h]
  rfl
theorem vN_inv {K : PySem.W.Frag} {H : Hp} {ns : List Nat} {vs : List V} (h : DpAll K H vs (ns.map fun n : Nat => PyData.int (n : Int))) : vs = vN ns := by
  have e : (ns.map fun n : Nat => PyData.int (n : Int)) = (ns.map fun n : Nat => (n : Int)).map PyData.int := by rw [List.map_map]; rfl
  rw [e] at h
  rw [Lf.Dps.ints_inv h, List.map_map]
  rfl
theorem dN_list {K : PySem.W.Frag} {H : Hp} {ns : List Nat} {v : V} (h : Dp K H v (dN ns)) : ∃ a, v = .ref a ∧ SqL K H a (vN ns) := by
  obtain ⟨a, xs, e, h1, h2⟩ := Lf.dp_list h
  rw [vN_inv h2] at h1
  exact ⟨a, e, h1⟩
theorem vN_dps {K : PySem.W.Frag} {H : Hp} : ∀ ns : List Nat, DpAll K H (vN ns) (ns.map fun n : Nat => PyData.int (n : Int))
  | [] => .nil
  | n :: ns => .cons (.int _) (vN_dps ns)
theorem dP_tup {K : PySem.W.Frag} {H : Hp} {p : Nat × Nat} {v : V} (h : Dp K H v (dP p)) : ∃ a, v = .ref a ∧ SqT K H a [.int p.1, .int p.2] := by
  obtain ⟨a, xs, e, h1, h2⟩ := Lf.dp_tup h
  have e2 := Lf.Dps.ints_inv (ns := [(p.1 : Int), p.2]) h2
  rw [e2] at h1
  exact ⟨a, e, h1⟩
theorem dPs_list {K : PySem.W.Frag} {H : Hp} {ps : PS} {v : V} (h : Dp K H v (dPs ps)) : ∃ a xs, v = .ref a ∧ SqL K H a xs ∧ xs.length = ps.length ∧ ∀ (i : Nat) (x : V), xs[i]? = some x → ∃ p t, ps[i]? = some p ∧ x = .ref t ∧ SqT K H t [.int p.1, .int p.2] := by
  obtain ⟨a, xs, e, h1, h2⟩ := Lf.dp_list h
  refine ⟨a, xs, e, h1, by rw [Lf.Dps.len h2, List.length_map], fun i x hx => ?_⟩
  obtain ⟨d, hd, hp⟩ := Lf.Dps.get h2 hx
  rw [List.getElem?_map] at hd
  obtain ⟨p, e1, rfl⟩ := Option.map_eq_some_iff.mp hd
  obtain ⟨t, e2, h3⟩ := dP_tup hp
  exact ⟨p, t, e1, e2, h3⟩
theorem dNs_list {K : PySem.W.Frag} {H : Hp} {rows : List (List Nat)} {v : V} (h : Dp K H v (dNs rows)) : ∃ a xs, v = .ref a ∧ SqL K H a xs ∧ xs.length = rows.length ∧ ∀ (i : Nat) (row : List Nat), rows[i]? = some row → ∃ t, xs[i]? = some (.ref t) ∧ SqL K H t (vN row) := by
  obtain ⟨a, xs, e, h1, h2⟩ := Lf.dp_list h
  refine ⟨a, xs, e, h1, by rw [Lf.Dps.len h2, List.length_map], fun i row hr => ?_⟩
  obtain ⟨x, hx, hp⟩ := Lf.Dps.get2 h2 (i := i) (d := dN row) (by rw [List.getElem?_map, hr]; rfl)
  obtain ⟨t, e2, h3⟩ := dN_list hp
  exact ⟨t, by rw [hx, e2], h3⟩
/-- all items but the first -/
theorem cut1 (xs : List V) : cutV xs (some 1) none = xs.drop 1 := by
  unfold cutV
  have e1 : HT.sIx xs.length 0 (some 1) = min 1 xs.length := HT.sIx_nat xs.length 0 1
  rw [e1, HT.sIx_none]
  cases xs with
  | nil => rfl
  | cons x r =>
    have e2 : min 1 (x :: r).length = 1 := by
      rw [List.length_cons]
      omega
    rw [e2]
    show List.take ((x :: r).length - 1) r = r
    rw [List.length_cons, Nat.add_sub_cancel, List.take_length]
/-- a list of data by its places -/
theorem dps_of {K : PySem.W.Frag} {H : Hp} : ∀ {vs : List V} {ds : List PyData}, vs.length = ds.length → (∀ (i : Nat) v d, vs[i]? = some v → ds[i]? = some d → Dp K H v d) → DpAll K H vs ds
  | [], [], _, _ => .nil
  | [], _ :: _, h, _ => by cases h
  | _ :: _, [], h, _ => by cases h
  | v :: vs, d :: ds, h, f => .cons (f 0 v d rfl rfl) (dps_of (by simpa using h) fun i v' d' h1 h2 => f (i + 1) v' d' (by simpa using h1) (by simpa using h2))
end Wm
end
section
set_option Elab.async false
set_option linter.all false
set_option maxRecDepth 100000
set_option maxHeartbeats 4000000
namespace Wm
open PySem PySem.Spec PyProof.Rows L2 Lf
open Evl
/-! ### what may be compared and shown -/
theorem canAll : ∀ {ds : List PyData}, (∀ d ∈ ds, PyData.canLay0 d = true) → PyData.canLayAll0 ds = true
  | [], _ => rfl
  | d :: ds, h => by
    show (PyData.canLay0 d && PyData.canLayAll0 ds) = true
    rw [h d List.mem_cons_self, canAll fun e he => h e (List.mem_cons_of_mem _ he)]
    rfl
theorem depAll {n : Nat} : ∀ {ds : List PyData}, (∀ d ∈ ds, PyData.depth d ≤ n) → PyData.depthAll ds ≤ n
  | [], _ => Nat.zero_le _
  | d :: ds, h => by
    show max (PyData.depth d) (PyData.depthAll ds) ≤ n
    have h1 := h d List.mem_cons_self
    have h2 := depAll fun e he => h e (List.mem_cons_of_mem _ he)
    omega
/-- data of depth n at most -/
structure Sh (n : Nat) (d : PyData) : Prop where
  can : PyData.canLay0 d = true
  dep : PyData.depth d ≤ n
theorem Sh.mono {m n : Nat} {d : PyData} (h : Sh m d) (e : m ≤ n) : Sh n d := ⟨h.can, Nat.le_trans h.dep e⟩
theorem Sh.shaped {n : Nat} {d : PyData} (h : Sh n d) (e : n ≤ 64) : SeqAt.shaped d = true := by
  show (PyData.canLay0 d && decide (PyData.depth d ≤ 64)) = true
  rw [h.can, decide_eq_true (Nat.le_trans h.dep e)]
  rfl
theorem Sh.int (i : Int) : Sh 0 (.int i) := ⟨rfl, Nat.le_refl _⟩
theorem Sh.non : Sh 0 .none := ⟨rfl, Nat.le_refl _⟩
theorem Sh.bl (b : Bool) : Sh 0 (.bool b) := ⟨rfl, Nat.le_refl _⟩
theorem Sh.list {n : Nat} {ds : List PyData} (h : ∀ d ∈ ds, Sh n d) : Sh (n + 1) (.list ds) := ⟨canAll fun d hd => (h d hd).can, Nat.succ_le_succ (depAll fun d hd => (h d hd).dep)⟩
theorem Sh.tup {n : Nat} {ds : List PyData} (h : ∀ d ∈ ds, Sh n d) : Sh (n + 1) (.tuple ds) := ⟨canAll fun d hd => (h d hd).can, Nat.succ_le_succ (depAll fun d hd => (h d hd).dep)⟩
theorem sh_dP (p : Nat × Nat) : Sh 1 (dP p) := Sh.tup (n := 0) fun d hd => by
  rcases List.mem_cons.mp hd with rfl | hd
  · exact Sh.int _
  · rcases List.mem_cons.mp hd with rfl | hd
    · exact Sh.int _
    · cases hd
theorem sh_dPs (ps : PS) : Sh 2 (dPs ps) := Sh.list fun d hd => by
  obtain ⟨p, _, rfl⟩ := List.mem_map.mp hd
  exact sh_dP p
theorem sh_dN (ns : List Nat) : Sh 1 (dN ns) := Sh.list fun d hd => by
  obtain ⟨p, _, rfl⟩ := List.mem_map.mp hd
  exact Sh.int _
theorem sh_dNs (rows : List (List Nat)) : Sh 2 (dNs rows) := Sh.list fun d hd => by
  obtain ⟨p, _, rfl⟩ := List.mem_map.mp hd
  exact sh_dN p
theorem non_dPs (ps : PS) : ((ps.map dP).any fun z => PyData.eqv z .none) = false := by
  rw [List.any_eq_false]
  intro d hd
  obtain ⟨p, _, rfl⟩ := List.mem_map.mp hd
  exact fun h => Bool.noConfusion h
/-! ### a list of pairs whose tuples are told -/
def PairsIn (H : Hp) (ws : List V) (ps : PS) : Prop := ws.length = ps.length ∧ ∀ (i : Nat) (p : Nat × Nat), ps[i]? = some p → ∃ t, ws[i]? = some (.ref t) ∧ H t = some (.tup [.int p.1, .int p.2])
theorem PairsIn.ex {H H' : Hp} {ws : List V} {ps : PS} (h : PairsIn H ws ps) (e : Ex H H') : PairsIn H' ws ps := ⟨h.1, fun i p hp => let ⟨t, h1, h2⟩ := h.2 i p hp; ⟨t, h1, e _ _ h2⟩⟩
theorem PairsIn.upd {H : Hp} {ws us vs : List V} {ps : PS} {D : Addr} (h : PairsIn H ws ps) (hD : H D = some (.lst us)) : PairsIn (upd H D (.lst vs)) ws ps := ⟨h.1, fun i p hp => by
  obtain ⟨t, h1, h2⟩ := h.2 i p hp
  refine ⟨t, h1, ?_⟩
  rw [upd_ne (ne_of h2 hD (by intro z; cases z))]
  exact h2⟩
theorem PairsIn.nil (H : Hp) : PairsIn H [] [] := ⟨rfl, fun i p hp => by simp at hp⟩
theorem PairsIn.snoc {H : Hp} {ws : List V} {ps : PS} {t : Addr} {p : Nat × Nat} (h : PairsIn H ws ps) (ht : H t = some (.tup [.int p.1, .int p.2])) : PairsIn H (ws ++ [.ref t]) (ps ++ [p]) := by
  refine ⟨by rw [List.length_append, List.length_append, h.1] <;> rfl, fun i q hq => ?_⟩
  by_cases hi : i < ps.length
  · rw [List.getElem?_append_left hi] at hq
    obtain ⟨u, h1, h2⟩ := h.2 i q hq
    exact ⟨u, by rw [List.getElem?_append_left (by rw [h.1]; exact hi)]; exact h1, h2⟩
  · rw [List.getElem?_append_right (by omega)] at hq
    have e0 : i - ps.length = 0 := by
      have := (List.getElem?_eq_some_iff.mp hq).1
      simp at this
      omega
    rw [e0] at hq
    have e1 : p = q := Option.some.inj hq
    subst e1
    refine ⟨t, ?_, ht⟩
    rw [List.getElem?_append_right (by rw [h.1]; omega), h.1, e0]
    rfl
theorem PairsIn.dps {K : PySem.W.Frag} {H : Hp} {ws : List V} {ps : PS} (h : PairsIn H ws ps) : DpAll K H ws (ps.map dP) := by
  refine dps_of (by rw [h.1, List.length_map]) fun i v d h1 h2 => ?_
  rw [List.getElem?_map] at h2
  obtain ⟨p, e1, rfl⟩ := Option.map_eq_some_iff.mp h2
  obtain ⟨t, e2, h3⟩ := h.2 i p e1
  rw [h1] at e2
  cases e2
  exact .tup (.inl (.inl h3)) (.cons (.int _) (.cons (.int _) .nil))
theorem PairsIn.dp {K : PySem.W.Frag} {H : Hp} {a : Addr} {ws : List V} {ps : PS} (h : PairsIn H ws ps) (ha : SqL K H a ws) : Dp K H (.ref a) (dPs ps) := .lst ha h.dps
/-! ### rows of numbers in lists of their own -/
def RowsIn (H : Hp) (ws : List V) (rows : List (List Nat)) : Prop := ws.length = rows.length ∧ (∀ (i : Nat) (row : List Nat), rows[i]? = some row → ∃ t, ws[i]? = some (.ref t) ∧ H t = some (.lst (vN row))) ∧ ∀ (i j : Nat) (t : Addr), ws[i]? = some (.ref t) → ws[j]? = some (.ref t) → i = j
theorem RowsIn.dps {K : PySem.W.Frag} {H : Hp} {ws : List V} {rows : List (List Nat)} (h : RowsIn H ws rows) : DpAll K H ws (rows.map dN) := by
  refine dps_of (by rw [h.1, List.length_map]) fun i v d h1 h2 => ?_
  rw [List.getElem?_map] at h2
  obtain ⟨row, e1, rfl⟩ := Option.map_eq_some_iff.mp h2
  obtain ⟨t, e2, h3⟩ := h.2.1 i row e1
  rw [h1] at e2
  cases e2
  exact .lst (.inl (.inl h3)) (vN_dps row)
theorem RowsIn.put {H : Hp} {ws : List V} {rows : List (List Nat)} {i n : Nat} {row : List Nat} {t : Addr} (h : RowsIn H ws rows) (hr : rows[i]? = some row) (ht : ws[i]? = some (.ref t)) : RowsIn (upd H t (.lst (vN row ++ [.int (n : Int)]))) ws (rows.set i (row ++ [n])) := by
  refine ⟨by rw [List.length_set]; exact h.1, fun j row' hj => ?_, h.2.2⟩
  by_cases e : i = j
  · subst e
    rw [List.getElem?_set_self (List.getElem?_eq_some_iff.mp hr).1] at hj
    cases hj
    refine ⟨t, ht, ?_⟩
    rw [upd_same]
    unfold vN
    rw [List.map_append]
    rfl
  · rw [List.getElem?_set_ne e] at hj
    obtain ⟨u, h1, h2⟩ := h.2.1 j row' hj
    refine ⟨u, h1, ?_⟩
    have nut : u ≠ t := fun q => e (h.2.2 i j t ht (by rw [← q]; exact h1))
    rw [upd_ne nut]
    exact h2
/-- the rows behind some pairs -/
def rowsUpto (many : Nat) (ps : PS) (k : Nat) : List (List Nat) := (List.range many).map (rowOf (ps.take k))
theorem rowOf_snoc (ps : PS) (p : Nat × Nat) (i : Nat) : rowOf (ps ++ [p]) i = rowOf ps i ++ (if p.1 = i then [p.2] else if p.2 = i then [p.1] else []) := by
  unfold rowOf
  rw [List.filterMap_append]
  congr 1
  by_cases h1 : p.1 = i
  · simp [h1]
  · by_cases h2 : p.2 = i
    · simp [h1, h2]
    · simp [h1, h2]
theorem set_range {α : Type} (n i : Nat) (f : Nat → α) (x : α) (hi : i < n) : ((List.range n).map f).set i x = (List.range n).map fun j => if i = j then x else f j := by
  refine List.ext_getElem? fun j => ?_
  by_cases e : i = j
  · subst e
    rw [List.getElem?_set_self (by simpa using hi), List.getElem?_map, List.getElem?_range hi]
    simp
  · rw [List.getElem?_set_ne e, List.getElem?_map, List.getElem?_map]
    cases h : (List.range n)[j]? with
    | none => rfl
    | some k =>
      have hk : k = j := by
        have := List.getElem?_eq_some_iff.mp h
        obtain ⟨h1, h2⟩ := this
        rw [List.getElem_range] at h2
        exact h2.symm
      subst hk
      simp [e]
theorem rows_step {many k : Nat} {ps : PS} {a b : Nat} (hk : ps[k]? = some (a, b)) (hab : a < b) (hb : b < many) :
    ((rowsUpto many ps k).set a (rowOf (ps.take k) a ++ [b])).set b (rowOf (ps.take k) b ++ [a]) = rowsUpto many ps (k + 1) := by
  unfold rowsUpto
  rw [set_range _ _ _ _ (by omega), set_range _ _ _ _ hb]
  have e : ps.take (k + 1) = ps.take k ++ [(a, b)] := by
    rw [List.take_add_one, hk]
    rfl
  rw [e]
  refine List.map_congr_left fun j _ => ?_
  rw [rowOf_snoc]
  by_cases h1 : b = j
  · subst h1
    have h2 : ¬ a = b := by omega
    simp [h2]
  · by_cases h2 : a = j
    · subst h2
      simp [h1]
    · simp [h1, h2]
theorem near_all (many : Nat) (ps : PS) : rowsUpto many ps ps.length = nearOf many ps := by
  unfold rowsUpto nearOf
  rw [List.take_length]
theorem rows_zero (many : Nat) (ps : PS) : rowsUpto many ps 0 = List.replicate many [] := by
  unfold rowsUpto
  refine List.ext_getElem? fun j => ?_
  rw [List.getElem?_map, List.getElem?_replicate]
  by_cases h : j < many
  · rw [List.getElem?_range h, if_pos h]
    rfl
  · rw [List.getElem?_eq_none (by simpa using h), if_neg h]
    rfl
end Wm
end
section
set_option Elab.async false
set_option linter.all false
set_option maxRecDepth 100000
set_option maxHeartbeats 4000000
namespace Wm
open PySem PySem.Spec PyProof.Rows L2 Lf
open Evl
/-! ### a web's object -/
def webF (m : Nat) (a1 a2 : Addr) : List (Str × V) := [(("_many" : Str), V.int (m : Int)), (("_pairs" : Str), V.ref a1), (("_near" : Str), V.ref a2)]
def WebAt (K : PySem.W.Frag) (C : Addr) (H : Hp) (p : Addr) (m : Nat) (ps : PS) : Prop := Good m ps ∧ ∃ dx a1 a2, H p = some (.ins C dx (webF m a1 a2)) ∧ Dp K H (.ref a1) (dPs ps) ∧ Dp K H (.ref a2) (dNs (nearOf m ps))
theorem WebAt.ex {K : PySem.W.Frag} {C : Addr} {H H' : Hp} {p : Addr} {m : Nat} {ps : PS} (h : WebAt K C H p m ps) (e : Ex H H') : WebAt K C H' p m ps := by
  obtain ⟨g, dx, a1, a2, h1, h2, h3⟩ := h
  exact ⟨g, dx, a1, a2, e _ _ h1, Dp.ex h2 e, Dp.ex h3 e⟩
theorem webF_put (m : Nat) (a1 a2 : Addr) : putF "_near" (.ref a2) (putF "_pairs" (.ref a1) (putF "_many" (.int (m : Int)) [])) = webF m a1 a2 := by
  have n1 : ¬ (("_many" : Str) = "_pairs") := by decide +kernel
  have n2 : ¬ (("_many" : Str) = "_near") := by decide +kernel
  have n3 : ¬ (("_pairs" : Str) = "_near") := by decide +kernel
  show putF "_near" (.ref a2) (putF "_pairs" (.ref a1) [(("_many" : Str), V.int (m : Int))]) = _
  have e1 : putF "_pairs" (.ref a1) [(("_many" : Str), V.int (m : Int))] = [(("_many" : Str), V.int (m : Int)), (("_pairs" : Str), V.ref a1)] := by
    show (if ("_many" : Str) = "_pairs" then _ else _) = _
    rw [if_neg n1]
    rfl
  rw [e1]
  show (if ("_many" : Str) = "_near" then _ else _ :: (if ("_pairs" : Str) = "_near" then _ else _ :: putF "_near" (.ref a2) [])) = _
  rw [if_neg n2, if_neg n3]
  rfl
theorem webF_many (m : Nat) (a1 a2 : Addr) : (webF m a1 a2).lookup ("_many" : Str) = some (.int (m : Int)) := by
  rw [← webF_put, lookup_putF, if_neg (by decide +kernel), lookup_putF, if_neg (by decide +kernel), lookup_putF, if_pos rfl]
theorem webF_pairs (m : Nat) (a1 a2 : Addr) : (webF m a1 a2).lookup ("_pairs" : Str) = some (.ref a1) := by
  rw [← webF_put, lookup_putF, if_neg (by decide +kernel), lookup_putF, if_pos rfl]
theorem webF_near (m : Nat) (a1 a2 : Addr) : (webF m a1 a2).lookup ("_near" : Str) = some (.ref a2) := by
  rw [← webF_put, lookup_putF, if_pos rfl]
theorem webF_no (m : Nat) (a1 a2 : Addr) {x : Str} (h1 : ¬ x = "_many") (h2 : ¬ x = "_pairs") (h3 : ¬ x = "_near") : (webF m a1 a2).lookup x = none := by
  rw [← webF_put, lookup_putF, if_neg h3, lookup_putF, if_neg h2, lookup_putF, if_neg h1]
  rfl
/-! ### data does not hang on an instance -/
theorem rd_ins {H : Hp} {x C dx a : Addr} {fs : List (Str × V)} {o u : HO} (hx : H x = some (.ins C dx fs)) (hu : ∀ C dx fs, u ≠ .ins C dx fs) (h : Rd H a u) : Rd (upd H x o) a u := by
  rcases h with h | ⟨ob, h⟩
  · refine .inl ?_
    rw [upd_ne (ne_of h hx (hu C dx fs))]
    exact h
  · refine .inr ⟨ob, ?_⟩
    rw [upd_ne (ne_of h hx (by intro z; cases z))]
    exact h
mutual
theorem dp_ins {K : PySem.W.Frag} {H : Hp} {x C dx : Addr} {fs : List (Str × V)} {o : HO} (hx : H x = some (.ins C dx fs)) : ∀ (d : PyData) (v : V), Dp K H v d → Dp K (upd H x o) v d
  | .none, _, h => by cases h; exact .non
  | .bool b, _, h => by cases h; exact .bl b
  | .int i, _, h => by cases h; exact .int i
  | .str x, _, h => by cases h; exact .str x
  | .list ds, _, h => by
    cases h with
    | lst h1 h2 => exact .lst (h1.imp (rd_ins hx (by intro _ _ _ z; cases z)) id) (dps_ins hx ds _ h2)
  | .tuple ds, _, h => by
    cases h with
    | tup h1 h2 => exact .tup (h1.imp (rd_ins hx (by intro _ _ _ z; cases z)) id) (dps_ins hx ds _ h2)
  | .dict _, _, h => by cases h
theorem dps_ins {K : PySem.W.Frag} {H : Hp} {x C dx : Addr} {fs : List (Str × V)} {o : HO} (hx : H x = some (.ins C dx fs)) : ∀ (ds : List PyData) (vs : List V), DpAll K H vs ds → DpAll K (upd H x o) vs ds
  | [], _, h => by cases h; exact .nil
  | d :: ds, _, h => by
    cases h with
    | cons h1 h2 => exact .cons (dp_ins hx d _ h1) (dps_ins hx ds _ h2)
end
theorem PairsIn.ins {H : Hp} {x C dx : Addr} {fs : List (Str × V)} {o : HO} {ws : List V} {ps : PS} (h : PairsIn H ws ps) (hx : H x = some (.ins C dx fs)) : PairsIn (L2.upd H x o) ws ps := ⟨h.1, fun i p hp => by
  obtain ⟨t, h1, h2⟩ := h.2 i p hp
  refine ⟨t, h1, ?_⟩
  rw [upd_ne (ne_of h2 hx (by intro z; cases z))]
  exact h2⟩
theorem RowsIn.ins {H : Hp} {x C dx : Addr} {fs : List (Str × V)} {o : HO} {ws : List V} {rows : List (List Nat)} (h : RowsIn H ws rows) (hx : H x = some (.ins C dx fs)) : RowsIn (L2.upd H x o) ws rows := ⟨h.1, fun i p hp => by
  obtain ⟨t, h1, h2⟩ := h.2.1 i p hp
  refine ⟨t, h1, ?_⟩
  rw [upd_ne (ne_of h2 hx (by intro z; cases z))]
  exact h2, h.2.2⟩
theorem RowsIn.ex {H H' : Hp} {ws : List V} {rows : List (List Nat)} (h : RowsIn H ws rows) (e : Ex H H') : RowsIn H' ws rows := ⟨h.1, fun i p hp => let ⟨t, h1, h2⟩ := h.2.1 i p hp; ⟨t, h1, e _ _ h2⟩, h.2.2⟩
/-- a web that was made at H0 -/
def WebNew (C : Addr) (H0 H : Hp) (x : Addr) (m : Nat) (ps : PS) : Prop := Good m ps ∧ ∃ dx a1 a2 ws1 ws2, H x = some (.ins C dx (webF m a1 a2)) ∧ H a1 = some (.lst ws1) ∧ H a2 = some (.lst ws2) ∧ PairsIn H ws1 ps ∧ RowsIn H ws2 (nearOf m ps) ∧ H0 x = none ∧ H0 a1 = none ∧ H0 a2 = none ∧ ∀ (i : Nat) (t : Addr), ws2[i]? = some (.ref t) → H0 t = none
theorem WebNew.at {K : PySem.W.Frag} {C : Addr} {H0 H : Hp} {x : Addr} {m : Nat} {ps : PS} (h : WebNew C H0 H x m ps) : WebAt K C H x m ps := by
  obtain ⟨g, dx, a1, a2, ws1, ws2, h1, h2, h3, h4, h5, _⟩ := h
  exact ⟨g, dx, a1, a2, h1, h4.dp (sq_of h2), .lst (sq_of h3) h5.dps⟩
/-! ### the slots' list holds -/
def slotsHold (m : Nat) (ps : PS) (ns : List Int) : Bool :=
  decide (ns.length = m) && (!(ns.any fun n => decide (n < 0)) && (List.range m).all fun pl => !((List.range pl).any fun l => decide (ns.getD l 0 = ns.getD pl 0) && clash ps l pl))
theorem nearOf_get {m : Nat} {ps : PS} {i : Nat} (h : i < m) : (nearOf m ps)[i]? = some (rowOf ps i) := by
  unfold nearOf
  rw [List.getElem?_map, List.getElem?_range h]
  rfl
theorem any_getD {b : List Nat} (f : Nat → Bool) : b.any f = (List.range b.length).any fun j => f (b.getD j 0) := by
  induction b with
  | nil => rfl
  | cons x r ih =>
    rw [List.length_cons, List.range_succ_eq_map, List.any_cons, List.any_cons, List.any_map, ih]
    rfl
theorem any_getI {b : List Int} {f : Int → Bool} : b.any f = (List.range b.length).any fun j => f (b.getD j 0) := by
  induction b with
  | nil => rfl
  | cons x r ih =>
    rw [List.length_cons, List.range_succ_eq_map, List.any_cons, List.any_cons, List.any_map, ih]
    rfl
theorem given_filter (b : List Nat) (f : Nat → Bool) : given b.length (fun n => f (b.getD n 0)) (fun n => V.int ((b.getD n 0 : Nat) : Int)) = vN (b.filter f) := by
  unfold given vN
  have e : b = (List.range b.length).map fun n => b.getD n 0 := by
    refine List.ext_getElem? fun i => ?_
    by_cases q : i < b.length
    · rw [List.getElem?_map, List.getElem?_range q]
      show b[i]? = some (b.getD i 0)
      rw [List.getD_eq_getElem?_getD, List.getElem?_eq_getElem q]
      rfl
    · rw [List.getElem?_eq_none (by omega), List.getElem?_eq_none (by simpa using q)]
  conv => rhs; rw [e]
  rw [List.filter_map, List.map_map]
  rfl
theorem ne_nil (ns : List Nat) : (!PyData.eqv (dN ns) (.list [])) = !ns.isEmpty := by
  cases ns with
  | nil => rfl
  | cons x r => rfl
theorem filter_any (b : List Nat) (f : Nat → Bool) : (!(b.filter f).isEmpty) = b.any f := by
  induction b with
  | nil => rfl
  | cons x r ih =>
    rw [List.filter_cons, List.any_cons]
    by_cases h : f x = true
    · rw [if_pos h, h]
      rfl
    · rw [if_neg h, ih, Bool.eq_false_iff.mpr h, Bool.false_or]
theorem vN_at {b : List Nat} {j : Nat} {x : V} (h : (vN b)[j]? = some x) : ∃ n : Nat, x = .int (n : Int) ∧ b[j]? = some n := by
  unfold vN at h
  rw [List.getElem?_map] at h
  obtain ⟨n, h1, h2⟩ := Option.map_eq_some_iff.mp h
  exact ⟨n, h2.symm, h1⟩
end Wm
end
section
set_option Elab.async false
set_option linter.all false
set_option maxRecDepth 100000
set_option maxHeartbeats 4000000
namespace Wm
open PySem PySem.Spec PyProof.Rows L2 Lf
open Evl
theorem rowOf_sorted {many : Nat} {ps : PS} (g : Good many ps) (i : Nat) : (rowOf ps i).Pairwise (· < ·) := by
  unfold rowOf
  have h : ps.Pairwise fun p q => lt2 p q ∧ p.1 < p.2 ∧ q.1 < q.2 := by
    refine List.Pairwise.imp_of_mem (fun {p q} hp hq h => ⟨h, (g.lt p hp).1, (g.lt q hq).1⟩) g.pw
  refine List.Pairwise.filterMap _ (fun p q ⟨h1, h2, h3⟩ x hx y hy => ?_) h
  have hx : (if p.1 = i then some p.2 else if p.2 = i then some p.1 else none) = some x := hx
  have hy : (if q.1 = i then some q.2 else if q.2 = i then some q.1 else none) = some y := hy
  have h1 : p.1 < q.1 ∨ (p.1 = q.1 ∧ p.2 < q.2) := h1
  split at hx
  · split at hy
    · cases hx; cases hy; omega
    · split at hy
      · cases hx; cases hy; omega
      · cases hy
  · split at hx
    · split at hy
      · cases hx; cases hy; omega
      · split at hy
        · cases hx; cases hy; omega
        · cases hy
    · cases hx
theorem rowOf_lt {many : Nat} {ps : PS} (g : Good many ps) {i n : Nat} (h : n ∈ rowOf ps i) : n < many := by
  unfold rowOf at h
  obtain ⟨p, hp, e⟩ := List.mem_filterMap.mp h
  obtain ⟨h1, h2⟩ := g.lt p hp
  split at e
  · cases e; omega
  · split at e
    · cases e; omega
    · cases e
theorem sorted_row {many : Nat} {ps : PS} (g : Good many ps) {i : Nat} {ns : List Int} (hp : ns.Perm ((rowOf ps i).map fun n : Nat => (n : Int))) (hs : ns.Pairwise (· ≤ ·)) : ns = (rowOf ps i).map fun n : Nat => (n : Int) := by
  refine PySem.W.ksm_same hp hs ?_
  rw [List.pairwise_map]
  exact List.Pairwise.imp (fun h => by omega) (rowOf_sorted g i)
theorem adj_of {many : Nat} {ps : PS} (g : Good many ps) {a b : Nat} (h : (a, b) ∈ ps) : adj ps a b = true ∧ adj ps b a = true := by
  have h1 := (g.lt _ h).1
  refine ⟨decide_eq_true ?_, decide_eq_true ?_⟩
  · exact List.mem_filterMap.mpr ⟨(a, b), h, by simp⟩
  · have h1 : a < b := h1
    exact List.mem_filterMap.mpr ⟨(a, b), h, by have : ¬ a = b := by omega
                                                simp [this]⟩
theorem clash_of {many : Nat} {ps : PS} (g : Good many ps) {a b : Nat} (h : (a, b) ∈ ps) : clash ps a b = true := by
  have h1 : a < b := (g.lt _ h).1
  unfold clash
  rw [(adj_of g h).1]
  have : ¬ a = b := by omega
  simp [this]
/-! ### the slots, each the least that no lesser clashing place has -/
def lesser (ps : PS) (n : Nat) : List Nat := ((List.range n).filter fun l => clash ps l n).map fun l => (slotsUpto ps n).getD l 0
theorem slots_stay (ps : PS) {i : Nat} : ∀ {n m : Nat}, i < n → n ≤ m → (slotsUpto ps m)[i]? = (slotsUpto ps n)[i]?
  | n, 0, h, h2 => by omega
  | n, m + 1, h, h2 => by
    by_cases e : n = m + 1
    · rw [e]
    · show (slotsUpto ps m ++ _)[i]? = _
      rw [List.getElem?_append_left (by rw [slots_len]; omega)]
      exact slots_stay ps h (by omega)
theorem slots_at (ps : PS) {i m : Nat} (h : i < m) : (slotsUpto ps m)[i]? = some (least (lesser ps i)) := by
  rw [slots_stay ps (Nat.lt_succ_self i) h]
  show (slotsUpto ps i ++ [_])[i]? = _
  rw [List.getElem?_append_right (by rw [slots_len]; exact Nat.le_refl _), slots_len, Nat.sub_self]
  rfl
theorem slots_get (ps : PS) {i m : Nat} (h : i < m) : (slotsUpto ps m).getD i 0 = least (lesser ps i) := by
  rw [List.getD_eq_getElem?_getD, slots_at ps h]
  rfl
theorem lesser_eq (ps : PS) {i m : Nat} (h : i ≤ m) : lesser ps i = ((List.range i).filter fun l => clash ps l i).map fun l => (slotsUpto ps m).getD l 0 := by
  unfold lesser
  refine List.map_congr_left fun l hl => ?_
  have hl : l < i := List.mem_range.mp (List.mem_filter.mp hl).1
  rw [slots_get ps hl, slots_get ps (Nat.lt_of_lt_of_le hl h)]
/-- clashing places have unlike slots -/
theorem slots_apart (ps : PS) {a b m : Nat} (h : a < b) (hb : b < m) (hc : clash ps a b = true) : (slotsUpto ps m).getD a 0 ≠ (slotsUpto ps m).getD b 0 := by
  intro e
  rw [slots_get ps hb] at e
  refine least_not (lesser ps b) ?_
  rw [← e, lesser_eq ps (Nat.le_of_lt hb)]
  exact List.mem_map.mpr ⟨a, List.mem_filter.mpr ⟨List.mem_range.mpr h, hc⟩, rfl⟩
theorem slots_hold_ok {m : Nat} (ps : PS) : slotsHold m ps ((slotsUpto ps m).map fun n : Nat => (n : Int)) = true := by
  unfold slotsHold
  have gd : ∀ i, i < m → ((slotsUpto ps m).map fun n : Nat => (n : Int)).getD i 0 = (((slotsUpto ps m).getD i 0 : Nat) : Int) := by
    intro i hi
    rw [List.getD_eq_getElem?_getD, List.getD_eq_getElem?_getD, List.getElem?_map, slots_at ps hi]
    rfl
  have h1 : decide (((slotsUpto ps m).map fun n : Nat => (n : Int)).length = m) = true := decide_eq_true (by rw [List.length_map, slots_len])
  have h2 : (((slotsUpto ps m).map fun n : Nat => (n : Int)).any fun n => decide (n < 0)) = false := by
    rw [List.any_eq_false]
    intro x hx
    obtain ⟨n, _, rfl⟩ := List.mem_map.mp hx
    rw [decide_eq_false (by omega)]
    decide
  rw [h1, h2]
  show ((List.range m).all fun pl => _) = true
  rw [List.all_eq_true]
  intro pl hpl
  have hpl := List.mem_range.mp hpl
  rw [Bool.not_eq_true', List.any_eq_false]
  intro l hl
  have hl := List.mem_range.mp hl
  rw [gd l (by omega), gd pl hpl]
  intro hh
  rw [Bool.and_eq_true, decide_eq_true_eq] at hh
  exact slots_apart ps hl hpl hh.2 (by have := hh.1; omega)
theorem slots_hold_no {m : Nat} {ps : PS} {ns : List Int} {a b : Nat} (hab : a < b) (hb : b < m) (hc : clash ps a b = true) (e : ns.getD a 0 = ns.getD b 0) : slotsHold m ps ns = false := by
  unfold slotsHold
  have : ((List.range m).all fun pl => !((List.range pl).any fun l => decide (ns.getD l 0 = ns.getD pl 0) && clash ps l pl)) = false := by
    rw [List.all_eq_false]
    refine ⟨b, List.mem_range.mpr hb, ?_⟩
    rw [Bool.not_eq_true', Bool.not_eq_false]
    rw [List.any_eq_true]
    exact ⟨a, List.mem_range.mpr hab, by rw [hc, decide_eq_true e]; rfl⟩
  rw [this, Bool.and_false, Bool.and_false]
theorem given_vN (ps : PS) (i m : Nat) : given i (fun j => clash ps j i) (fun j => V.int (((slotsUpto ps m).getD j 0 : Nat) : Int)) = vN (((List.range i).filter fun l => clash ps l i).map fun l => (slotsUpto ps m).getD l 0) := by
  unfold given vN
  rw [List.map_map]
  rfl
theorem lesser_len (ps : PS) (n : Nat) : (lesser ps n).length ≤ n := by
  unfold lesser
  rw [List.length_map]
  have h := List.length_filter_le (fun l => clash ps l n) (List.range n)
  rw [List.length_range] at h
  exact h
end Wm
end
section
set_option Elab.async false
set_option linter.all false
set_option maxRecDepth 100000
set_option maxHeartbeats 4000000
namespace Wm
open PySem PySem.Spec PyProof.Rows L2 Lf
open Evl
theorem bag_lst {H : Hp} {b : Addr × Addr} (h : Bag H b) : ∃ xs, H b.1 = some (.lst xs) := let ⟨_, _, _, _, h1, _⟩ := h; ⟨_, h1⟩
theorem tup_ne {H : Hp} {b : Addr × Addr} {t : Addr} {xs : List V} (h : Bag H b) (ht : H t = some (.tup xs)) : t ≠ b.1 := let ⟨_, h1⟩ := bag_lst h; ne_of ht h1 (by intro z; cases z)
theorem PairsIn.step {H H' : Hp} {b : Addr × Addr} {ws : List V} {ps : PS} (h : PairsIn H ws ps) (hb : Bag H b) (s : Step b H H') : PairsIn H' ws ps := ⟨h.1, fun i p hp => let ⟨t, h1, h2⟩ := h.2 i p hp; ⟨t, h1, s.at (tup_ne hb h2) h2⟩⟩
theorem PairsIn.mask {H : Hp} {b : Addr × Addr} {ws : List V} {ps : PS} (h : PairsIn H ws ps) (hb : Bag H b) : PairsIn (mask b.1 H) ws ps := ⟨h.1, fun i p hp => let ⟨t, h1, h2⟩ := h.2 i p hp; ⟨t, h1, by rw [mask_at (tup_ne hb h2)]; exact h2⟩⟩
theorem seldom_at {way : Int} (h0 : 0 ≤ way) (h1 : way < 6) : ∃ sd : Int, atI [V.int 9, V.int 9, V.int 3, V.int 5, V.int 9, V.int 2] way = some (.int sd) ∧ 2 ≤ sd ∧ sd ≤ 9 := by
  obtain ⟨n, rfl⟩ := Int.eq_ofNat_of_zero_le h0
  have hn : n < 6 := by omega
  match n, hn with
  | 0, _ => exact ⟨9, rfl, by decide, by decide⟩
  | 1, _ => exact ⟨9, rfl, by decide, by decide⟩
  | 2, _ => exact ⟨3, rfl, by decide, by decide⟩
  | 3, _ => exact ⟨5, rfl, by decide, by decide⟩
  | 4, _ => exact ⟨9, rfl, by decide, by decide⟩
  | 5, _ => exact ⟨2, rfl, by decide, by decide⟩
theorem tany_take {b : Addr × Addr} {σ : L2.St} {H : Hp} {many : Int} {i j : Nat} (hb : Bag H b) (hi : σ[i]? = some (some (.ref b.1))) (hj : σ[j]? = some (some (.int many))) (hm : 0 < many ∧ many < 1073741824) :
    TAny (Step b) (tTest (tOp rEq (tCl spTake E0 (tCons (tVar i) (tCons (tVar j) tNil))) (tC (.int 0)))) σ H := fun Q q =>
  ⟨_, hi, _, hj, b, many, rfl, hb, hm, fun v H' _ _ bg s => ⟨rfl, _, rfl, q _ _ (.draw bg s)⟩⟩
theorem RowsIn.mask {H0 H : Hp} {b : Addr} {ws : List V} {rows : List (List Nat)} (h : RowsIn H ws rows) (hb : H0 b ≠ none) (hf : ∀ (i : Nat) (t : Addr), ws[i]? = some (.ref t) → H0 t = none) : RowsIn (mask b H) ws rows := ⟨h.1, fun i row hr => by
  obtain ⟨t, h1, h2⟩ := h.2.1 i row hr
  refine ⟨t, h1, ?_⟩
  have : t ≠ b := fun e => hb (e ▸ hf i t h1)
  rw [mask_at this]
  exact h2, h.2.2⟩
theorem WebNew.mask {K : PySem.W.Frag} {C : Addr} {H0 H : Hp} {x : Addr} {m : Nat} {ps : PS} {b : Addr × Addr} (h : WebNew C H0 H x m ps) (hb0 : Bag H0 b) (hb : Bag H b) : WebAt K C (mask b.1 H) x m ps := by
  obtain ⟨g, dx, a1, a2, ws1, ws2, h1, h2, h3, h4, h5, f0, f1, f2, fr⟩ := h
  have nb : H0 b.1 ≠ none := by
    obtain ⟨xs, q⟩ := bag_lst hb0
    rw [q]
    exact fun z => nomatch z
  have ne : ∀ {a : Addr}, H0 a = none → a ≠ b.1 := fun h e => nb (e ▸ h)
  exact ⟨g, dx, a1, a2, by rw [mask_at (ne f0)]; exact h1, (h4.mask hb).dp (sq_of (by rw [mask_at (ne f1)]; exact h2)), .lst (sq_of (by rw [mask_at (ne f2)]; exact h3)) (h5.mask nb fr).dps⟩
theorem RowsIn.snoc {H : Hp} {ws : List V} {rows : List (List Nat)} {t : Addr} {row : List Nat} (h : RowsIn H ws rows) (ht : H t = some (.lst (vN row))) (hf : ∀ j : Nat, ws[j]? ≠ some (.ref t)) : RowsIn H (ws ++ [.ref t]) (rows ++ [row]) := by
  have hl := h.1
  refine ⟨by rw [List.length_append, List.length_append, hl] <;> rfl, fun i r hr => ?_, fun i j u h1 h2 => ?_⟩
  · by_cases hi : i < rows.length
    · rw [List.getElem?_append_left hi] at hr
      obtain ⟨u, h1, h2⟩ := h.2.1 i r hr
      exact ⟨u, by rw [List.getElem?_append_left (by omega)]; exact h1, h2⟩
    · rw [List.getElem?_append_right (by omega)] at hr
      have e0 : i - rows.length = 0 := by
        have := (List.getElem?_eq_some_iff.mp hr).1
        simp at this
        omega
      rw [e0] at hr
      cases hr
      refine ⟨t, ?_, ht⟩
      rw [List.getElem?_append_right (by omega), hl, e0]
      rfl
  · have old : ∀ (k : Nat), (ws ++ [V.ref t])[k]? = some (.ref u) → (ws[k]? = some (.ref u)) ∨ (k = ws.length ∧ u = t) := by
      intro k hk
      by_cases q : k < ws.length
      · rw [List.getElem?_append_left q] at hk
        exact .inl hk
      · rw [List.getElem?_append_right (by omega)] at hk
        have q2 := (List.getElem?_eq_some_iff.mp hk).1
        have e0 : k = ws.length := by simp at q2; omega
        subst e0
        rw [Nat.sub_self] at hk
        cases hk
        exact .inr ⟨rfl, rfl⟩
    rcases old i h1 with a | ⟨a, a2⟩ <;> rcases old j h2 with c | ⟨c, c2⟩
    · exact h.2.2 i j u a c
    · rw [c2] at a
      exact absurd a (hf i)
    · rw [a2] at c
      exact absurd c (hf j)
    · omega
theorem RowsIn.updD {H : Hp} {ws : List V} {rows : List (List Nat)} {D : Addr} {o : HO} (h : RowsIn H ws rows) (hf : ∀ j : Nat, ws[j]? ≠ some (.ref D)) : RowsIn (L2.upd H D o) ws rows := ⟨h.1, fun i r hr => by
  obtain ⟨u, h1, h2⟩ := h.2.1 i r hr
  have nu : u ≠ D := fun e => hf i (e ▸ h1)
  exact ⟨u, h1, by rw [upd_ne nu]; exact h2⟩, h.2.2⟩
theorem RowsIn.notnew {H : Hp} {ws : List V} {rows : List (List Nat)} {t : Addr} (h : RowsIn H ws rows) (ht : H t = none) : ∀ j : Nat, ws[j]? ≠ some (.ref t) := fun j hj => by
  have hl := (List.getElem?_eq_some_iff.mp hj).1
  have hl2 : j < rows.length := by rw [← h.1]; exact hl
  obtain ⟨u, h1, h2⟩ := h.2.1 j _ (List.getElem?_eq_getElem hl2)
  rw [hj] at h1
  cases h1
  rw [ht] at h2
  cases h2
end Wm
end
section
set_option Elab.async false
set_option linter.all false
set_option maxRecDepth 100000
set_option maxHeartbeats 4000000
namespace Wm
open PySem PySem.Spec PyProof.Rows L2 Lf
open Evl
/-! data that is short enough to be written out -/
structure Rep (n w : Nat) (d : PyData) : Prop where
  sh : Sh n d
  wt : PyData.weight d ≤ w
  sm : PyData.leavesShort 13 d = true
  ok : PyData.showable d = true
theorem weightAll_le {w : Nat} : ∀ {ds : List PyData}, (∀ d ∈ ds, PyData.weight d ≤ w) → PyData.weightAll ds ≤ ds.length * (w + 1)
  | [], _ => Nat.zero_le _
  | d :: ds, h => by
    have h1 := h d List.mem_cons_self
    have h2 := weightAll_le (ds := ds) fun x hx => h x (List.mem_cons_of_mem _ hx)
    rw [PyData.weightAll, List.length_cons, Nat.succ_mul]
    omega
theorem smAll : ∀ {ds : List PyData}, (∀ d ∈ ds, PyData.leavesShort 13 d = true) → PyData.leavesShortAll 13 ds = true
  | [], _ => rfl
  | d :: ds, h => by
    rw [PyData.leavesShortAll, h d List.mem_cons_self, smAll (ds := ds) fun x hx => h x (List.mem_cons_of_mem _ hx)]
    rfl
theorem okAll : ∀ {ds : List PyData}, (∀ d ∈ ds, PyData.showable d = true) → PyData.showableAll ds = true
  | [], _ => rfl
  | d :: ds, h => by
    rw [PyData.showableAll, h d List.mem_cons_self, okAll (ds := ds) fun x hx => h x (List.mem_cons_of_mem _ hx)]
    rfl
theorem Rep.mono {m n v w : Nat} {d : PyData} (h : Rep m v d) (e : m ≤ n) (e2 : v ≤ w) : Rep n w d := ⟨h.sh.mono e, Nat.le_trans h.wt e2, h.sm, h.ok⟩
theorem log_lt {k j : Nat} (h : k < 2 ^ (j + 1)) : k.log2 < j + 1 := by
  by_cases q : k = 0
  · rw [q]
    exact Nat.succ_pos _
  · exact (Nat.log2_lt q).mpr h
theorem Rep.int {i : Int} (h : i.natAbs < 10 ^ 12) : Rep 0 40 (.int i) := by
  have h1 : i.natAbs.log2 < 39 + 1 := log_lt (Nat.lt_of_lt_of_le h (by decide))
  refine ⟨Sh.int i, ?_, ?_, ?_⟩
  · rw [PyData.weight]
    split <;> omega
  · rw [PyData.leavesShort]
    exact decide_eq_true (PyData.shown_int_le h)
  · rw [PyData.showable]
    exact decide_eq_true (by omega)
theorem Rep.bl (b : Bool) : Rep 0 0 (.bool b) := ⟨Sh.bl b, Nat.le_refl _, rfl, rfl⟩
theorem Rep.non : Rep 0 0 .none := ⟨Sh.non, Nat.le_refl _, rfl, rfl⟩
theorem Rep.list {n w : Nat} {ds : List PyData} (h : ∀ d ∈ ds, Rep n w d) : Rep (n + 1) (ds.length * (w + 1)) (.list ds) := ⟨Sh.list fun d hd => (h d hd).sh, by
  rw [PyData.weight]
  exact weightAll_le fun d hd => (h d hd).wt, by
  rw [PyData.leavesShort]
  exact smAll fun d hd => (h d hd).sm, by
  rw [PyData.showable]
  exact okAll fun d hd => (h d hd).ok⟩
theorem Rep.tup {n w : Nat} {ds : List PyData} (h : ∀ d ∈ ds, Rep n w d) : Rep (n + 1) (ds.length * (w + 1)) (.tuple ds) := ⟨Sh.tup fun d hd => (h d hd).sh, by
  rw [PyData.weight]
  exact weightAll_le fun d hd => (h d hd).wt, by
  rw [PyData.leavesShort]
  exact smAll fun d hd => (h d hd).sm, by
  rw [PyData.showable]
  exact okAll fun d hd => (h d hd).ok⟩
theorem Rep.size {n : Nat} {d : PyData} (h : Rep n 1000000 d) : d.shown.length ≤ sizeLine := PyData.shown_fits (B := 13) (by decide) (by decide) h.sm (Nat.le_trans h.wt (by decide))
theorem Rep.eqv {n w : Nat} {d : PyData} (h : Rep n w d) : PyData.eqv d d = true := SeqAt.eqv_refl d h.sh.can
theorem rep_dN {ns : List Nat} (h : ∀ n ∈ ns, n < 1000) : Rep 1 (ns.length * 41) (dN ns) := by
  have := Rep.list (n := 0) (w := 40) (ds := ns.map fun n : Nat => PyData.int (n : Int)) (fun d hd => by
    obtain ⟨n, hn, rfl⟩ := List.mem_map.mp hd
    have := h n hn
    exact Rep.int (by show n < _; omega))
  rw [List.length_map] at this
  exact this
theorem rep_dP {p : Nat × Nat} (h1 : p.1 < 1000) (h2 : p.2 < 1000) : Rep 1 82 (dP p) := Rep.tup (n := 0) (w := 40) (ds := [.int (p.1 : Int), .int (p.2 : Int)]) (fun d hd => by
  rcases List.mem_cons.mp hd with rfl | hd
  · exact Rep.int (by show p.1 < _; omega)
  · rw [List.mem_singleton.mp hd]
    exact Rep.int (by show p.2 < _; omega))
theorem rep_dPs {m : Nat} {ps : PS} (g : Good m ps) : Rep 2 100000 (dPs ps) := by
  have m10 := g.m10
  have few := g.few
  have := Rep.list (n := 1) (w := 82) (ds := ps.map dP) (fun d hd => by
    obtain ⟨p, hp, rfl⟩ := List.mem_map.mp hd
    have := g.lt p hp
    exact rep_dP (by omega) (by omega))
  rw [List.length_map] at this
  exact this.mono (Nat.le_refl _) (by omega)
theorem rep_row {m : Nat} {ps : PS} (g : Good m ps) (i : Nat) : Rep 1 100000 (dN (rowOf ps i)) := by
  have few : (rowOf ps i).length ≤ 1000 := Nat.le_trans (List.length_filterMap_le ..) g.few
  have m10 := g.m10
  exact (rep_dN fun n hn => by have := rowOf_lt g hn; omega).mono (Nat.le_refl _) (by omega)
theorem rep_slots {m : Nat} (ps : PS) (h : m ≤ 10) : Rep 1 100000 (dN (slotsUpto ps m)) := by
  have e := slots_len ps m
  refine (rep_dN fun n hn => ?_).mono (Nat.le_refl _) (by omega)
  obtain ⟨i, hi, rfl⟩ := List.mem_iff_getElem.mp hn
  have him : i < m := by omega
  have h1 := slots_at ps him
  rw [List.getElem?_eq_getElem hi] at h1
  have h0 := Option.some.inj h1
  have h2 := least_le (lesser ps i)
  have h3 := lesser_len ps i
  omega
/-! alike: equal, and written alike -/
def spAlike (K : PySem.W.Frag) : Sp := fun vs H Q _ => ∃ u v d, vs = [u, v] ∧ Dp K H u d ∧ Dp K H v d ∧ Rep 60 1000000 d ∧ RetV (.bl true) H Q
section
variable {K : PySem.W.Frag} {σ : L2.St} {H : Hp} {te : TE} {xs : List V} {D : Ends}
theorem ev_repr {u : V} {d : PyData} (h : Ev te σ H u) (hd : Dp K H u d) (r : Rep 60 1000000 d) : Ev (tCB (rRepr K) (tCons te tNil)) σ H (.str d.shown) := ev_cb (ea_cons h ea_nil) fun H2 e2 Q q => ⟨u, d, rfl, dp_ex e2 _ _ hd, r.ok, PyData.hasDict_of_canLay d r.sh.can, r.sh.dep, r.size, q H2 (Ex.refl _)⟩
theorem rv_eqD {u v : V} {d : PyData} {n w : Nat} (hu : Dp K H u d) (hv : Dp K H v d) (r : Rep n w d) (hn : n ≤ 64) : RV (rEqD K) u v H (.bl true) := rv_val fun H2 e2 Q k => ⟨d, d, dp_ex e2 _ _ hu, dp_ex e2 _ _ hv, r.sh.shaped hn, r.sh.shaped hn, by rw [r.eqv]; exact k⟩
theorem rv_neD {u v : V} {d : PyData} {n w : Nat} (hu : Dp K H u d) (hv : Dp K H v d) (r : Rep n w d) (hn : n ≤ 64) : RV (rNeD K) u v H (.bl false) := rv_val fun H2 e2 Q k => ⟨d, d, dp_ex e2 _ _ hu, dp_ex e2 _ _ hv, r.sh.shaped hn, r.sh.shaped hn, by rw [r.eqv]; exact k⟩
end
section
variable {σ : L2.St} {H : Hp} {te tu : TE} {xs ys : List V} {v : V} {D : Ends}
theorem s_retLL (h : EvL te σ H xs) (h2 : EvL tu σ H ys) (k : ∀ l l2 p H1, H l = none → H l2 = none → H p = none → Ex H H1 → H1 l = some (.lst xs) → H1 l2 = some (.lst ys) → H1 p = some (.tup [.ref l, .ref l2]) → D.rt (.ref p) H1) : tRet (tTup (tCons te (tCons tu tNil))) D σ H :=
  h H (Ex.refl H) _ fun l H1 l0 e1 hl => h2 H1 e1 _ fun l2 H2 l20 e2 hl2 => ⟨by show 2 ≤ sizeLine; decide, fun p hp => k l l2 p _ l0 (fresh_back e1 l20) (fresh_back (e1.trans e2) hp) ((e1.trans e2).trans (Ex.new hp)) (Ex.new hp _ _ (e2 _ _ hl)) (Ex.new hp _ _ hl2) upd_same⟩
theorem s_retLV (h : EvL te σ H xs) (h2 : Ev tu σ H v) (k : ∀ l p H1, H l = none → H p = none → Ex H H1 → H1 l = some (.lst xs) → H1 p = some (.tup [.ref l, v]) → D.rt (.ref p) H1) : tRet (tTup (tCons te (tCons tu tNil))) D σ H :=
  h H (Ex.refl H) _ fun l H1 l0 e1 hl => h2 H1 e1 _ fun H2 e2 => ⟨by show 2 ≤ sizeLine; decide, fun p hp => k l p _ l0 (fresh_back (e1.trans e2) hp) ((e1.trans e2).trans (Ex.new hp)) (Ex.new hp _ _ (e2 _ _ hl)) upd_same⟩
end
/-! two lists hidden: the bag and one more -/
def M2 (b : Addr × Addr) (q : Addr) (H : Hp) : Hp := mask q (mask b.1 H)
theorem M2.le (b : Addr × Addr) (q : Addr) (H : Hp) : Ex (M2 b q H) (mask b.1 H) := mask_le _ _
theorem M2.step {b : Addr × Addr} {q : Addr} {H H' : Hp} (s : Step b H H') : Ex (M2 b q H) (M2 b q H') := mask_ex s.2
theorem M2.put {b : Addr × Addr} {q : Addr} {H : Hp} {o : HO} : M2 b q (L2.upd H q o) = M2 b q H := by
  funext a
  unfold M2
  by_cases e : a = q
  · rw [e, mask_self, mask_self]
  · rw [mask_at e, mask_at e]
    by_cases e2 : a = b.1
    · rw [e2, mask_self, mask_self]
    · rw [mask_at e2, mask_at e2, upd_ne e]
theorem M2.at {b : Addr × Addr} {q a : Addr} {H : Hp} (h1 : a ≠ b.1) (h2 : a ≠ q) : M2 b q H a = H a := (mask_at h2).trans (mask_at h1)
theorem PairsIn.mask1 {H : Hp} {p : Addr} {us ws : List V} {ps : PS} (h : PairsIn H ws ps) (hp : H p = some (.lst us)) : PairsIn (Lf.mask p H) ws ps := ⟨h.1, fun i x hx => let ⟨t, h1, h2⟩ := h.2 i x hx; ⟨t, h1, by rw [mask_at (ne_of h2 hp (by intro z; cases z))]; exact h2⟩⟩
theorem WebNew.mask1 {C : Addr} {H0 H : Hp} {x : Addr} {m : Nat} {ps : PS} {p : Addr} {us : List V} (h : WebNew C H0 H x m ps) (hp0 : H0 p ≠ none) (hp : H p = some (.lst us)) : WebNew C H0 (Lf.mask p H) x m ps := by
  obtain ⟨g, dx, a1, a2, ws1, ws2, h1, h2, h3, h4, h5, f0, f1, f2, fr⟩ := h
  have ne : ∀ {a : Addr}, H0 a = none → a ≠ p := fun h e => hp0 (e ▸ h)
  exact ⟨g, dx, a1, a2, ws1, ws2, by rw [mask_at (ne f0)]; exact h1, by rw [mask_at (ne f1)]; exact h2, by rw [mask_at (ne f2)]; exact h3, h4.mask1 hp, h5.mask hp0 fr, f0, f1, f2, fr⟩
theorem bag_none {H : Hp} {b : Addr × Addr} (h : Bag H b) : H b.1 ≠ none := by
  obtain ⟨xs, q⟩ := bag_lst h
  rw [q]
  exact fun z => nomatch z
theorem M2.web {K : PySem.W.Frag} {C : Addr} {H0 H : Hp} {x q : Addr} {m : Nat} {ps : PS} {b : Addr × Addr} {us : List V} (h : WebNew C H0 H x m ps) (hb0 : Bag H0 b) (hb : Bag H b) (hq0 : H0 q ≠ none) (hq : H q = some (.lst us)) (nq : q ≠ b.1) : WebAt K C (M2 b q H) x m ps := by
  obtain ⟨xs, q1⟩ := bag_lst hb
  exact ((h.mask1 (bag_none hb0) q1).mask1 hq0 (us := us) (by rw [mask_at nq]; exact hq)).at
theorem M2.pairs {K : PySem.W.Frag} {H : Hp} {q a : Addr} {ws us : List V} {ps : PS} {b : Addr × Addr} (h : PairsIn H ws ps) (hb : Bag H b) (hq : H q = some (.lst us)) (nq : q ≠ b.1) (ha : H a = some (.lst ws)) (n1 : a ≠ b.1) (n2 : a ≠ q) : Dp K (M2 b q H) (.ref a) (dPs ps) := by
  obtain ⟨xs, q1⟩ := bag_lst hb
  exact ((h.mask1 q1).mask1 (us := us) (by rw [mask_at nq]; exact hq)).dp (sq_of ((M2.at n1 n2).trans ha))
theorem M2.rows {K : PySem.W.Frag} {H0 H : Hp} {q a : Addr} {ws : List V} {rows : List (List Nat)} {b : Addr × Addr} (h : RowsIn H ws rows) (hf : ∀ (i : Nat) (t : Addr), ws[i]? = some (.ref t) → H0 t = none) (hb : H0 b.1 ≠ none) (hq : H0 q ≠ none) (ha : H a = some (.lst ws)) (n1 : a ≠ b.1) (n2 : a ≠ q) : Dp K (M2 b q H) (.ref a) (dNs rows) :=
  .lst (sq_of ((M2.at n1 n2).trans ha)) ((h.mask hb hf).mask hq hf).dps
theorem Bag_upd {H : Hp} {b : Addr × Addr} {q : Addr} {o : HO} (h : Bag H b) (n1 : q ≠ b.1) (n2 : q ≠ b.2) : Bag (L2.upd H q o) b := by
  obtain ⟨x, y, z, ns, h1, h2, r⟩ := h
  exact ⟨x, y, z, ns, by rw [upd_ne n1.symm]; exact h1, by rw [upd_ne n2.symm]; exact h2, r⟩
theorem WebNew.ex {C : Addr} {H0 H H' : Hp} {x : Addr} {m : Nat} {ps : PS} (h : WebNew C H0 H x m ps) (e : Ex H H') : WebNew C H0 H' x m ps := by
  obtain ⟨g, dx, a1, a2, ws1, ws2, h1, h2, h3, h4, h5, f0, f1, f2, fr⟩ := h
  exact ⟨g, dx, a1, a2, ws1, ws2, e _ _ h1, e _ _ h2, e _ _ h3, h4.ex e, h5.ex e, f0, f1, f2, fr⟩
theorem WebNew.put {C : Addr} {H0 H : Hp} {x : Addr} {m : Nat} {ps : PS} {p : Addr} {us vs : List V} (h : WebNew C H0 H x m ps) (hp0 : H0 p ≠ none) (hp : H p = some (.lst us)) : WebNew C H0 (L2.upd H p (.lst vs)) x m ps := by
  obtain ⟨g, dx, a1, a2, ws1, ws2, h1, h2, h3, h4, h5, f0, f1, f2, fr⟩ := h
  have ne : ∀ {a : Addr}, H0 a = none → a ≠ p := fun h e => hp0 (e ▸ h)
  exact ⟨g, dx, a1, a2, ws1, ws2, by rw [upd_ne (ne f0)]; exact h1, by rw [upd_ne (ne f1)]; exact h2, by rw [upd_ne (ne f2)]; exact h3, h4.upd hp, h5.updD fun j hj => ne (fr j p hj) rfl, f0, f1, f2, fr⟩
theorem first_free {m : Nat} {b : List Nat} (h : least b < m) : ((List.range m).filter fun n => !decide (n ∈ b))[0]? = some (least b) := by
  rw [← List.head?_eq_getElem?, List.head?_filter, List.find?_range_eq_some]
  refine ⟨by rw [decide_eq_false (least_not b)]; rfl, List.mem_range.mpr h, fun j hj => ?_⟩
  rw [decide_eq_true (least_in b j hj)]
  rfl
end Wm
end
section
set_option Elab.async false
set_option linter.all false
set_option maxRecDepth 100000
set_option maxHeartbeats 4000000
/-! Ln: plain kinds: what number_of and its like make of a value. -/
namespace Lf
open PySem PySem.Spec PyProof.Rows L2
open Evl
def optV : Option Int → V
  | none => .non
  | some i => .int i
/-- what number_of makes of a value -/
def Whole (K : PySem.W.Frag) (H : Hp) (v : V) (o : Option Int) : Prop := ∃ t b1 b2, TyX K H v t ∧ PySem.W.kitOne K t (.type "int") = some b1 ∧ PySem.W.kitOne K t (.type "bool") = some b2 ∧
  ((b1 = true ∧ b2 = false ∧ ∃ i, v = .int i ∧ o = some i) ∨ (b1 = false ∧ o = none) ∨ (b1 = true ∧ b2 = true ∧ o = none))
theorem Whole.int (K : PySem.W.Frag) (H : Hp) (i : Int) : Whole K H (.int i) (some i) := ⟨_, true, false, .base (.int i), kit_ty (by decide +kernel), kit_ty (by decide +kernel), .inl ⟨rfl, rfl, i, rfl, rfl⟩⟩
theorem Whole.non (K : PySem.W.Frag) (H : Hp) : Whole K H .non none := ⟨_, false, false, .base .non, kit_ty (by decide +kernel), kit_ty (by decide +kernel), .inr (.inl ⟨rfl, rfl⟩)⟩
theorem Whole.bl (K : PySem.W.Frag) (H : Hp) (b : Bool) : Whole K H (.bl b) none := ⟨_, true, true, .base (.bl b), kit_ty (by decide +kernel), kit_ty (by decide +kernel), .inr (.inr ⟨rfl, rfl, rfl⟩)⟩
theorem Whole.str (K : PySem.W.Frag) (H : Hp) (x : Str) : Whole K H (.str x) none := ⟨_, false, false, .base (.str x), kit_ty (by decide +kernel), kit_ty (by decide +kernel), .inr (.inl ⟨rfl, rfl⟩)⟩
theorem Whole.lst {K : PySem.W.Frag} {H : Hp} {a : Addr} {xs : List V} (h : SqL K H a xs) : Whole K H (.ref a) none := ⟨_, false, false, ty_of_l h, kit_ty (by decide +kernel), kit_ty (by decide +kernel), .inr (.inl ⟨rfl, rfl⟩)⟩
theorem Whole.tup {K : PySem.W.Frag} {H : Hp} {a : Addr} {xs : List V} (h : SqT K H a xs) : Whole K H (.ref a) none := ⟨_, false, false, ty_of_t h, kit_ty (by decide +kernel), kit_ty (by decide +kernel), .inr (.inl ⟨rfl, rfl⟩)⟩
def spNumber (K : PySem.W.Frag) : Sp := fun vs H Q _ => ∃ v o, vs = [v] ∧ Whole K H v o ∧ RetV (optV o) H Q
def inB (o : Option Int) (lo hi : Int) : Bool := match o with
  | none => false
  | some i => decide (lo ≤ i) && decide (i ≤ hi)
def spWithin (K : PySem.W.Frag) : Sp := fun vs H Q _ => ∃ v o lo hi, vs = [v, .int lo, .int hi] ∧ Whole K H v o ∧ RetV (.bl (inB o lo hi)) H Q
/-- isinstance of one built-in class -/
def Isi (K : PySem.W.Frag) (H : Hp) (v : V) (c : String) (b : Bool) : Prop := ∃ t, TyX K H v t ∧ PySem.W.kitOne K t (.type c) = some b
def RetU (xs : List V) (H : Hp) (Q : VK) : Prop := ∀ p H2, H p = none → Ex H H2 → H2 p = some (.tup xs) → Q (.ref p) H2
def SU (sp : Sp) (vs : List V) (H : Hp) (xs : List V) : Prop := ∀ H1, Ex H H1 → ∀ Q : VK, RetU xs H1 Q → ∀ E : XK, sp vs H1 Q E
section
variable {K : PySem.W.Frag} {σ : L2.St} {H H' : Hp} {ta tb te tx : TE} {t u : TT} {x y z v : V} {r : R2} {D : Ends} {tz : TS}
theorem sv_number (K : PySem.W.Frag) (H : Hp) (i : Int) : SV (spNumber K) [.int i] H (.int i) := fun H1 e Q q E => ⟨_, some i, rfl, .int K H1 i, q⟩
theorem sv_within (K : PySem.W.Frag) (H : Hp) (i lo hi : Int) : SV (spWithin K) [.int i, .int lo, .int hi] H (.bl (inB (some i) lo hi)) := fun H1 e Q q E => ⟨_, some i, lo, hi, rfl, .int K H1 i, q⟩
theorem eu_cl {sp : Sp} {vs xs : List V} {E : XK} {ta : TA} (h : EvA ta σ H vs) (hs : SU sp vs H xs) : EvU (tCl sp E ta) σ H xs := fun H1 e Q q =>
  h H1 e _ fun H2 e2 => hs H2 (e.trans e2) Q (fun p H3 hp e3 h3 => q p H3 (fresh_back e2 hp) (e2.trans e3) h3) E
theorem q_par {i j : Nat} {ta : TA} (h : EvA ta σ H [x, y]) (k : ∀ H1, Ex H H1 → tz D ((σ.set i (some x)).set j (some y)) H1) : tSeq (tPar i j ta) tz D σ H := h H (Ex.refl H) _ fun H1 e => ⟨x, y, rfl, k H1 e⟩
theorem s_par {i j : Nat} {ta : TA} (h : EvA ta σ H [x, y]) (k : ∀ H1, Ex H H1 → D.nx ((σ.set i (some x)).set j (some y)) H1) : tPar i j ta D σ H := h H (Ex.refl H) _ fun H1 e => ⟨x, y, rfl, k H1 e⟩
theorem q_asgG1 {g : TG} (h : Ev te σ H v) (k : ∀ H1, Ex H H1 → g v σ H1 (tz D)) : tSeq (tAsg te g) tz D σ H := h H (Ex.refl H) _ k
open Wm in
theorem rv_eqD2 {u v : V} {d d' : PyData} {n m : Nat} (hu : Dp K H u d) (hv : Dp K H v d') (s : Sh n d) (s' : Sh m d') (hn : n ≤ 64) (hm : m ≤ 64) : RV (rEqD K) u v H (.bl (PyData.eqv d d')) := rv_val fun H2 e2 Q k => ⟨d, d', dp_ex e2 _ _ hu, dp_ex e2 _ _ hv, s.shaped hn, s'.shaped hm, k⟩
open Wm in
theorem rv_neD2 {u v : V} {d d' : PyData} {n m : Nat} (hu : Dp K H u d) (hv : Dp K H v d') (s : Sh n d) (s' : Sh m d') (hn : n ≤ 64) (hm : m ≤ 64) : RV (rNeD K) u v H (.bl (!PyData.eqv d d')) := rv_val fun H2 e2 Q k => ⟨d, d', dp_ex e2 _ _ hu, dp_ex e2 _ _ hv, s.shaped hn, s'.shaped hm, k⟩
/-- the first operand a new tuple -/
theorem ev_opU1 {xs : List V} (ha : EvU ta σ H xs) (hb : ∀ H1, Ex H H1 → Ev tb σ H1 y) (hr : ∀ p H1, H1 p = some (.tup xs) → Ex H H1 → RV r (.ref p) y H1 z) : Ev (tOp r ta tb) σ H z := fun H1 e Q q =>
  ha H1 e _ fun p H2 _ e2 hp => hb H2 (e.trans e2) H2 (Ex.refl H2) _ fun H3 e3 => hr p H3 (e3 p _ hp) ((e.trans e2).trans e3) H3 (Ex.refl H3) Q fun H4 e4 => q H4 ((e2.trans e3).trans e4)
end
open Wm in
theorem sh_ints (ns : List Int) : Sh 1 (.tuple (ns.map PyData.int)) := Sh.tup (n := 0) fun d hd => by
  obtain ⟨i, _, rfl⟩ := List.mem_map.mp hd
  exact Sh.int i
open Wm in
theorem eqv_sh {n : Nat} {d : PyData} (h : Sh n d) : PyData.eqv d d = true := SeqAt.eqv_refl d h.can
theorem getD_int {ns : List Int} {i : Nat} (h : i < ns.length) : (ns.map V.int)[i]? = some (.int (ns.getD i 0)) := by
  rw [List.getElem?_map, List.getD_eq_getElem?_getD, List.getElem?_eq_getElem h]
  rfl
/-- ints in a tuple, as data -/
theorem dp_ints {K : PySem.W.Frag} {H : Hp} {p : Addr} {ns : List Int} (h : H p = some (.tup (ns.map V.int))) : Dp K H (.ref p) (.tuple (ns.map PyData.int)) := .tup (st_of h) Dps.ints
end Lf
end
section
set_option Elab.async false
set_option linter.all false
set_option maxRecDepth 100000
set_option maxHeartbeats 4000000
/-! Lx: sorted, min, max of data of any depth, by values. -/
namespace Lf
open PySem PySem.Spec PyProof.Rows L2
open Evl
section
variable {X : Cx}
/-- sorted(xs), the items data: bs the items with their data -/
def rSortD (K : PySem.W.Frag) : List V → Hp → VK → Prop := fun vs H Q => ∃ (a : Addr) (bs : List (V × PyData)), vs = [V.ref a] ∧ SqL K H a (bs.map (·.1)) ∧ (∀ b ∈ bs, Dp K H b.1 b.2) ∧ PySem.W.AllAlike (bs.map (·.2)) ∧ PySem.W.Sortable (bs.map (·.2)) ∧ (∀ b ∈ bs, b.2.depth ≤ 60) ∧
  ∀ p, H p = none → Q (.ref p) (upd H p (.lst ((bs.mergeSort (PySem.W.dataLe false (·.2))).map (·.1))))
theorem each_vals {bs : List (V × PyData)} : ∀ {us : List Value}, Vals (bs.map (·.1)) us → PySem.W.EachIs (fun u (b : V × PyData) => RelV b.1 u) us bs := by
  induction bs with
  | nil => intro us r; cases r; exact .nil
  | cons b bs ih => intro us r; cases r with | cons h t => exact .cons h (ih t)
theorem vals_each {bs : List (V × PyData)} : ∀ {us : List Value}, PySem.W.EachIs (fun u (b : V × PyData) => RelV b.1 u) us bs → Vals (bs.map (·.1)) us := by
  induction bs with
  | nil => intro us r; cases r; exact .nil
  | cons b bs ih => intro us r; cases r with | cons h t => exact .cons h (ih t)
theorem each_both {α β : Type} {R S : α → β → Prop} {as : List α} {bs : List β} (h : PySem.W.EachIs R as bs) (k : ∀ a b, b ∈ bs → R a b → S a b) : PySem.W.EachIs S as bs := by
  induction h with
  | nil => exact .nil
  | cons h1 h2 ih => exact .cons (k _ _ List.mem_cons_self h1) (ih fun a b hb hr => k a b (List.mem_cons_of_mem _ hb) hr)
theorem cr_sortD (hu : X.A.units + 65 < cLine) : CallR X (.builtin "sorted") (rSortD X.K) := by
  intro pins s σ H vs us Q I r h
  obtain ⟨a, bs, rfl, hs, hd, hal, hk, hdep, q⟩ := h
  obtain ⟨its, rv, hl, hz⟩ := I.list hs
  rw [Vals.ref1 r]
  have e := each_vals rv
  refine PySem.W.sorted_data (enc := fun b : V × PyData => b.2) hl.isList e (each_both e fun u b hb hr => Dp.reads I _ _ _ (hd b hb) hr) hal hk (by rw [List.length_map] at hz; exact hz) (fun b hb => by have := hdep b hb; omega) fun out ho eo => ?_
  obtain ⟨ep, he'⟩ := PyProof.Rows.sortedAll_at s.heap its out.toArray
  have hlen : ((bs.mergeSort (PySem.W.dataLe false (·.2))).map (·.1)).length ≤ sizeLine := by
    rw [List.length_map, List.length_mergeSort]
    rw [List.length_map] at hz
    exact hz
  exact ⟨.ref _, upd H (s.heap.objs.size + 1) (.lst ((bs.mergeSort (PySem.W.dataLe false (·.2))).map (·.1))), I.laid (t' := s.toks) (fun _ _ => PyProof.Rows.sortedAll_old) (Nat.le_succ _) ⟨hlen, out, ep, vals_each eo, he'⟩, rfl, q _ (I.hok.fresh (Nat.le_succ _))⟩
/-- min(xs), max(xs), the items data -/
def rMinD (K : PySem.W.Frag) : List V → Hp → VK → Prop := fun vs H Q => ∃ (a : Addr) (xs : List V) (d : PyData) (ds : List PyData), vs = [V.ref a] ∧ SqL K H a xs ∧ DpAll K H xs (d :: ds) ∧ PySem.W.AlikeAll (d :: ds) ∧ PyData.depthAll (d :: ds) ≤ 60 ∧
  ∀ (i : Nat) (v : V), xs[i]? = some v → (d :: ds)[i]? = some (PySem.W.minD d ds) → Dp K H v (PySem.W.minD d ds) → Q v H
theorem readsAll_get {h : Heap} : ∀ {vs : List Value} {xs : List PyData} {as : List Addr}, ReadsAll h vs xs as → ∀ (i : Nat) (v : Value), vs[i]? = some v → ∃ d bs, xs[i]? = some d ∧ Reads h v d bs
  | _, _, _, .nil, _, _, hv => by simp at hv
  | _, _, _, .cons (d := d) r rs, 0, v, hv => by
    have e := Option.some.inj (show some _ = some v from hv)
    subst e
    exact ⟨d, _, rfl, r⟩
  | _, _, _, .cons r rs, i + 1, v, hv => readsAll_get rs i v (by simpa using hv)
theorem vals_get : ∀ {xs : List V} {us : List Value} {i : Nat} {u : Value}, Vals xs us → us[i]? = some u → ∃ v, xs[i]? = some v ∧ RelV v u
  | _, _, _, _, .nil, h => by simp at h
  | _, _, 0, _, .cons r _, h => by
    have e := Option.some.inj (show some _ = some _ from h)
    subst e
    exact ⟨_, rfl, r⟩
  | _, _, i + 1, _, .cons _ t, h => vals_get (i := i) t (by simpa using h)
theorem cr_minD (hc : X.calm = true) (hu : X.A.units + 65 < cLine) : CallR X (.builtin "min") (rMinD X.K) := by
  intro pins s σ H vs us Q I r h
  obtain ⟨a, xs, d, ds, rfl, hs, hd, hal, hdep, q⟩ := h
  obtain ⟨its, rv, hl, hz⟩ := I.list hs
  rw [Vals.ref1 r]
  obtain ⟨as, ra⟩ := Dp.readsAll I _ _ _ hd rv
  refine PySem.W.min_list_data (vs := its.toArray) (I.ok.hd hc) hl.isList (by simpa using ra) hal (by omega) fun i v h' tk bs hv hr hk => ?_
  have hv' : its[i]? = some v := by simpa using hv
  obtain ⟨x, hx, rx⟩ := vals_get rv hv'
  obtain ⟨e, he, hde⟩ := Dps.get hd hx
  obtain ⟨e2, bs2, he2, r2⟩ := readsAll_get ra i v hv'
  rw [he] at he2
  cases he2
  have eq := (Reads.unique (PyProof.Rows.Reads.keeps hk r2) _ _ hr).1
  subst eq
  exact ⟨x, H, I.kept hk, rx, q i x hx he hde⟩
/-- o.f = v as a target -/
def gFld (K : PySem.W.Frag) (to : TE) (f : Str) : TG := fun v σ H Q => to σ H fun x H1 => ∃ a C dx fs, x = .ref a ∧ H1 a = some (.ins C dx fs) ∧ Cls K C ∧ NoAttr K C f ∧ fs.length < 1000 ∧ Q σ (upd H1 a (.ins C dx (putF f v fs)))
theorem pg_fld {o : Expr} {f : Str} {to : TE} {pos : Pos} (ho : PE X o to) (ha : ∀ v, assign (.Attribute o f pos) X.env v = (do
      let ov ← holding [v] (eval o X.env)
      standAt pos.atName
      holding [v, ov] (setAttr ov f v)
      release [v, ov] []) := by intro _; rfl) : PG X (.Attribute o f pos) (gFld X.K to f) := by
  refine ⟨fun pins s σ H v u Q I r h => ?_⟩
  rw [ha]
  refine wpAny_bind (wpAny_holding (thn (ho.run pins s σ H _ I h) fun ov s1 ⟨x, H1, I1, r1, a, C, dx, fs, ex, ea, c, n, l, q⟩ => ?_))
  subst ex
  obtain rfl : ov = Value.ref a := r1
  refine wpAny_bind (wpAny_standAt (wpAny_bind (wpAny_holding (setattr_ok I1 ea c n l r fun s3 I3 => ?_))))
  exact wpAny_release ⟨σ, _, I3, q⟩
theorem k_gfld {K : PySem.W.Frag} {o : Expr} {f : Str} {to : TE} {pos : Pos} (e : X.K = K) (ho : PE X o to) (ha : ∀ v, assign (.Attribute o f pos) X.env v = (do
      let ov ← holding [v] (eval o X.env)
      standAt pos.atName
      holding [v, ov] (setAttr ov f v)
      release [v, ov] []) := by intro _; rfl) : PG X (.Attribute o f pos) (gFld K to f) := by
  subst e
  exact pg_fld ho ha
/-- d != {} -/
def rNeDE : R2 := fun x y H Q => ∃ a b ks, x = .ref a ∧ y = .ref b ∧ H a = some (.dK ks) ∧ H b = some (.dK []) ∧ Q (.bl (!ks.isEmpty)) H
theorem op_neDE (hu : X.A.units < cLine) : OpR X (compareOp .NotEq) rNeDE := by
  intro pins s σ H x y v u Q I rx ry h
  obtain ⟨a, b, ks, rfl, rfl, ea, eb, q⟩ := h
  obtain rfl : v = Value.ref a := rx
  obtain rfl : u = Value.ref b := ry
  obtain ⟨_, ya, va, ra, da⟩ := (show ObjOk X.prog X.w H s.heap a (.dK ks) from I.hok a _ ea)
  obtain ⟨_, yb, vb, rb, db⟩ := (show ObjOk X.prog X.w H s.heap b (.dK []) from I.hok b _ eb)
  have hl : ks.length = va.length := ra.length
  have hb : vb.length = 0 := rb.length.symm
  cases ks with
  | nil => exact PySem.W.keq_ne (knd := mixKind X.prog X.w) (r := true) ya yb da db hu (fun _ => hits_all rb ra fun p hp => by simp at hp) (fin_bl I q (by simp at hl; simp [hb, ← hl]))
  | cons k ks =>
    have h1 : va.length ≠ 0 := by
      rw [← hl]
      simp
    exact PySem.W.keq_ne (knd := mixKind X.prog X.w) (r := true) ya yb da db hu (fun e => absurd (e.trans hb) h1) (fin_bl I q (by simp [hb, h1]))
end
/-! ### dicts walked by items, under a lock -/
theorem Ex.lock {H H' : Hp} {d : Addr} {u : HO} {o : Obj} (hd : H d = some u) (e : Ex (upd H d (.frz o u)) H') : Ex H (upd H' d u) := fun a w h => by
  by_cases q : a = d
  · subst q
    rw [upd_same, ← hd]
    exact h
  · rw [upd_ne q]
    exact e a w (by rw [upd_ne q]; exact h)
/-- each item a tuple of its own -/
def Tups (H : Hp) (xs : List V) (rs : List (List V)) : Prop := xs.length = rs.length ∧ ∀ (i : Nat) r, rs[i]? = some r → ∃ t, xs[i]? = some (.ref t) ∧ H t = some (.tup r)
theorem Tups.ex {H H' : Hp} {xs : List V} {rs : List (List V)} (h : Tups H xs rs) (e : Ex H H') : Tups H' xs rs := ⟨h.1, fun i r hr => let ⟨t, h1, h2⟩ := h.2 i r hr; ⟨t, h1, e _ _ h2⟩⟩
theorem Tups.nil {H : Hp} : Tups H [] [] := ⟨rfl, fun i r h => by simp at h⟩
theorem Tups.snoc {H : Hp} {xs : List V} {rs : List (List V)} {t : Addr} {r : List V} (h : Tups H xs rs) (ht : H t = some (.tup r)) : Tups H (xs ++ [.ref t]) (rs ++ [r]) := by
  refine ⟨by rw [List.length_append, List.length_append, h.1] <;> rfl, fun i q hq => ?_⟩
  by_cases hi : i < rs.length
  · rw [List.getElem?_append_left hi] at hq
    obtain ⟨u, h1, h2⟩ := h.2 i q hq
    exact ⟨u, by rw [List.getElem?_append_left (by rw [h.1]; exact hi)]; exact h1, h2⟩
  · rw [List.getElem?_append_right (by omega)] at hq
    have hl := (List.getElem?_eq_some_iff.mp hq).1
    have e0 : i - rs.length = 0 := by simp at hl; omega
    rw [e0] at hq
    cases hq
    exact ⟨t, by rw [List.getElem?_append_right (by rw [h.1]; omega), h.1, e0] <;> rfl, ht⟩
theorem Tups.mut {H : Hp} {xs : List V} {rs : List (List V)} {p : Addr} {o : HO} (h : Tups H xs rs) (hp : ∀ r, H p ≠ some (.tup r)) : Tups (upd H p o) xs rs := ⟨h.1, fun i r hr => let ⟨t, h1, h2⟩ := h.2 i r hr; ⟨t, h1, by
  have : t ≠ p := fun e => hp r (e ▸ h2)
  rw [upd_ne this]
  exact h2⟩⟩
theorem take_snoc {α : Type} {l : List α} {i : Nat} {x : α} (h : l[i]? = some x) : l.take (i + 1) = l.take i ++ [x] := by
  have hl := (List.getElem?_eq_some_iff.mp h).1
  rw [List.take_add_one, h]
  rfl
section
variable {K : PySem.W.Frag} {σ : L2.St} {H : Hp} {td : TE}
/-- [(v, k) for k, v in d.items()] -/
theorem lc_itemsVK {d : Addr} {kvs : List (Key × V)} {j1 j2 : Nat} {vs : List Nat} (hd : H d = some (.dK kvs)) (hz : kvs.length ≤ 40000) (hj : ∀ x y, (((wipe σ vs).set j1 (some x)).set j2 (some y))[j1]? = some (some x) ∧ (((wipe σ vs).set j1 (some x)).set j2 (some y))[j2]? = some (some y))
    (hw : ∀ x y, wipe (((wipe σ vs).set j1 (some x)).set j2 (some y)) vs = wipe σ vs) (hl : ∀ od, Ev td σ (upd H d (.frz od (.dK kvs))) (.ref d)) (Q : VK)
    (k : ∀ p xs H2, H p = none → Ex H H2 → H2 p = some (.lst xs) → Tups H2 xs (kvs.map fun kv => [kv.2, kV kv.1]) → Q (.ref p) H2) :
    tLockE (tLc (iItems td) (gTup K 2 (gCons (gName j1) (gCons (gName j2) gNil))) tYes (tTup (tCons (tVar j2) (tCons (tVar j1) tNil))) vs) σ H Q := by
  refine ⟨d, .dK kvs, hd, trivial, fun od => ?_⟩
  refine hl od _ (Ex.refl _) _ fun H1 e1 => ⟨d, od, kvs, rfl, e1 _ _ upd_same, fun D hD => ?_⟩
  refine lc_it walk_items (fun i H' => ∃ acc, H D = none ∧ D ≠ d ∧ Ex H1 H' ∧ H' D = some (.lst acc) ∧ Tups H' acc ((kvs.take i).map fun kv => [kv.2, kV kv.1]) ∧ acc.length = i) ?_ ?_ ?_ ?_
  · have nd : D ≠ d := fun e => by rw [e, e1 _ _ upd_same] at hD; cases hD
    refine ⟨[], ?_, nd, Ex.new hD, upd_same, Tups.nil, rfl⟩
    have := fresh_back e1 hD
    rw [upd_ne nd] at this
    exact this
  · rintro i H' hi ⟨acc, _, _, e2, _⟩
    exact e2 _ _ (e1 _ _ upd_same)
  · rintro i x H2 H3 hi ⟨acc, hD0, nd, e2, h2, ht, hlen⟩ ⟨T0, x0, y0, rfl, hT, rfl, fx, fy⟩
    have gi : kvs[i]? = some kvs[i] := List.getElem?_eq_getElem hi
    dsimp only at fx fy
    rw [gi] at fx fy
    cases fx
    cases fy
    have nT : D ≠ T0 := fun e => by rw [e, hT] at h2; cases h2
    refine ⟨T0, _, rfl, .inl (.inl upd_same), rfl, _, _, rfl, _, _, rfl, rfl, hw _ _, ?_⟩
    refine (yes_ok : EvT tYes _ _ true) _ (Ex.refl _) _ fun H4 e4 => ?_
    rw [if_pos rfl]
    have e3 : Ex H2 H4 := (Ex.new hT).trans e4
    refine ⟨_, (hj _ _).2, _, (hj _ _).1, (by show 2 ≤ sizeLine; decide), fun p hp => ⟨acc, ?_, sz_lt (by omega), acc ++ [.ref p], hD0, nd, ?_, upd_same, ?_, by rw [List.length_append, hlen]; rfl⟩⟩
    · rw [upd_ne (ne_of_none (e3 _ _ h2) hp)]
      exact e3 _ _ h2
    · exact Ex.mut ((e2.trans e3).trans (Ex.new hp)) hD
    · rw [take_snoc gi, List.map_append]
      refine Tups.snoc (Tups.mut ((ht.ex e3).ex (Ex.new hp)) ?_) ?_
      · intro r
        rw [upd_ne (ne_of_none (e3 _ _ h2) hp), e3 _ _ h2]
        exact fun z => nomatch z
      · have : p ≠ D := fun e => by rw [e, e3 _ _ h2] at hp; cases hp
        rw [upd_ne this]
        exact upd_same
  · rintro H' ⟨acc, hD0, nd, e2, h2, ht, hlen⟩
    rw [List.take_length] at ht
    have e12 := e1.trans e2
    refine ⟨e12 _ _ upd_same, ?_⟩
    refine k D acc _ hD0 (Ex.lock hd e12) (by rw [upd_ne nd]; exact h2) (ht.mut fun r => ?_)
    rw [e12 _ _ upd_same]
    exact fun z => nomatch z
theorem putK_new {kvs : List (Key × V)} {k : Key} {v : V} (h : k ∉ kvs.map (·.1)) : putK kvs k v = kvs ++ [(k, v)] := by
  unfold putK
  rw [if_neg]
  intro z
  obtain ⟨kv, h1, h2⟩ := List.any_eq_true.mp z
  exact h (List.mem_map.mpr ⟨kv, h1, of_decide_eq_true h2⟩)
theorem filter_take_snoc {α : Type} {l : List α} {i : Nat} {x : α} {f : α → Bool} (h : l[i]? = some x) : (l.take (i + 1)).filter f = if f x = true then (l.take i).filter f ++ [x] else (l.take i).filter f := by
  rw [take_snoc h, List.filter_append]
  cases hf : f x with
  | true => rw [if_pos rfl, List.filter_cons, if_pos hf] <;> rfl
  | false => rw [if_neg (by decide), List.filter_cons, if_neg (by rw [hf]; decide)] <;> exact List.append_nil _
theorem nodup_at {α β : Type} {l : List α} {g : α → β} (hn : (l.map g).Nodup) {i : Nat} {x : α} (h : l[i]? = some x) : g x ∉ (l.take i).map g := by
  have hs : l.map g = (l.take i).map g ++ (g x :: (l.drop (i + 1)).map g) := by
    have e : l = l.take i ++ (x :: l.drop (i + 1)) := by
      have := (List.getElem?_eq_some_iff.mp h)
      obtain ⟨hl, rfl⟩ := this
      rw [← List.drop_eq_getElem_cons hl, List.take_append_drop]
    conv => lhs; rw [e]
    rw [List.map_append, List.map_cons]
  rw [hs] at hn
  intro hm
  have := (List.nodup_append.mp hn).2.2 _ hm _ List.mem_cons_self
  exact this rfl
/-- {k: v for k, v in d.items() if ..} -/
theorem dc_items {d : Addr} {kvs : List (Key × V)} {j1 j2 : Nat} {vs : List Nat} {tt : TT} (f : Key × V → Bool) (hd : H d = some (.dK kvs)) (hz : kvs.length ≤ 40000) (hn : (kvs.map (·.1)).Nodup)
    (hj : ∀ x y, (((wipe σ vs).set j1 (some x)).set j2 (some y))[j1]? = some (some x) ∧ (((wipe σ vs).set j1 (some x)).set j2 (some y))[j2]? = some (some y))
    (hw : ∀ x y, wipe (((wipe σ vs).set j1 (some x)).set j2 (some y)) vs = wipe σ vs) (hl : ∀ od, Ev td σ (upd H d (.frz od (.dK kvs))) (.ref d))
    (ht : ∀ od kv H1, Ex (upd H d (.frz od (.dK kvs))) H1 → kv ∈ kvs → EvT tt (((wipe σ vs).set j1 (some (kV kv.1))).set j2 (some kv.2)) H1 (f kv)) (Q : VK)
    (k : ∀ p H2, H p = none → Ex H H2 → H2 p = some (.dK (kvs.filter f)) → Q (.ref p) H2) :
    tLockE (tDc (iItems td) (gTup K 2 (gCons (gName j1) (gCons (gName j2) gNil))) tt (tVar j1) (tVar j2) vs) σ H Q := by
  refine ⟨d, .dK kvs, hd, trivial, fun od => ?_⟩
  refine hl od _ (Ex.refl _) _ fun H1 e1 => ⟨d, od, kvs, rfl, e1 _ _ upd_same, fun D hD => ?_⟩
  have nd : D ≠ d := fun e => by rw [e, e1 _ _ upd_same] at hD; cases hD
  have hD0 : H D = none := by
    have := fresh_back e1 hD
    rw [upd_ne nd] at this
    exact this
  refine ⟨fun i m H' => m = kvs.length - i ∧ i ≤ kvs.length ∧ Ex H1 H' ∧ H' D = some (.dK ((kvs.take i).filter f)), ⟨kvs.length, by simp, Nat.zero_le _, Ex.new hD, upd_same⟩, ?_⟩
  rintro i m H2 ⟨rfl, hi, e2, h2⟩
  have hdl : H2 d = some (.frz od (.dK kvs)) := e2 _ _ (e1 _ _ upd_same)
  by_cases hlt : i < kvs.length
  · have gi : kvs[i]? = some kvs[i] := List.getElem?_eq_getElem hlt
    refine .inr ⟨walk_items.goes i H2 hlt hdl, fun H' => Ex H1 H' ∧ H' D = some (.dK ((kvs.take (i + 1)).filter f)), fun H' h' => ⟨kvs.length - (i + 1), by omega, rfl, hlt, h'.1, h'.2⟩, ?_⟩
    intro x H3 y
    obtain ⟨T0, x0, y0, rfl, hT, rfl, fx, fy⟩ := walk_items.yields i H2 x H3 hlt hdl y
    dsimp only at fx fy
    rw [gi] at fx fy
    cases fx
    cases fy
    refine ⟨T0, _, rfl, .inl (.inl upd_same), rfl, _, _, rfl, _, _, rfl, rfl, hw _ _, ?_⟩
    have e3 : Ex H2 (upd H2 T0 (.tup [kV kvs[i].1, kvs[i].2])) := Ex.new hT
    refine ht od kvs[i] _ ((e1.trans e2).trans e3) (List.getElem_mem hlt) _ (Ex.refl _) _ fun H4 e4 => ?_
    have e24 := e3.trans e4
    rw [filter_take_snoc gi]
    cases hf : f kvs[i] with
    | false => exact ⟨e2.trans e24, e24 _ _ h2⟩
    | true =>
      refine ⟨_, (hj _ _).1, _, (hj _ _).2, _, kvs[i].1, rfl, e24 _ _ h2, ?_, ?_, ?_⟩
      · refine sz_lt (Nat.lt_of_le_of_lt (List.length_filter_le ..) ?_)
        rw [List.length_take]
        omega
      · exact Ex.mut (e2.trans e24) hD
      · rw [upd_same, putK_new]
        · rfl
        · intro hm
          obtain ⟨kv, h3, h4⟩ := List.mem_map.mp hm
          exact nodup_at hn gi (List.mem_map.mpr ⟨kv, (List.mem_filter.mp h3).1, h4⟩)
  · have e0 : i = kvs.length := by omega
    subst e0
    rw [List.take_length] at h2
    have e12 := e1.trans e2
    exact .inl ⟨walk_items.stops H2 hdl, hdl, k D _ hD0 (Ex.lock hd e12) (by rw [upd_ne nd]; exact h2)⟩
end
/-! ### fields by name -/
theorem lk_hit {f : Str} {v : V} {r : List (Str × V)} : List.lookup f ((f, v) :: r) = some v := by rw [List.lookup_cons, beq_self_eq_true]
theorem lk_miss {f g : Str} {v : V} {r : List (Str × V)} (h : (f == g) = false) : List.lookup f ((g, v) :: r) = List.lookup f r := by rw [List.lookup_cons, h]
theorem lk_nil {f : Str} : List.lookup f ([] : List (Str × V)) = none := rfl
theorem pf_hit {f : Str} {v x : V} {r : List (Str × V)} : putF f v ((f, x) :: r) = (f, v) :: r := if_pos rfl
theorem pf_miss {f g : Str} {v x : V} {r : List (Str × V)} (h : ¬ g = f) : putF f v ((g, x) :: r) = (g, x) :: putF f v r := if_neg h
theorem pf_nil {f : Str} {v : V} : putF f v [] = [(f, v)] := rfl
section
variable {K : PySem.W.Frag} {σ : L2.St} {H H' : Hp} {te to : TE} {v : V} {D : Ends} {tz : TS} {C p dx : Addr} {fs : List (Str × V)} {f : Str}
theorem s_fld (hv : Ev te σ H v) (ho : ∀ H1, Ex H H1 → Ev to σ H1 (.ref p)) (hp : H p = some (.ins C dx fs)) (cl : Cls K C) (na : NoAttr K C f) (hz : fs.length < 1000) (k : ∀ H1, Ex H H1 → D.nx σ (upd H1 p (.ins C dx (putF f v fs)))) : sFld K to te f D σ H :=
  hv H (Ex.refl _) _ fun H1 e1 => ho H1 e1 H1 (Ex.refl _) _ fun H2 e2 => ⟨p, C, dx, fs, rfl, e2 _ _ (e1 _ _ hp), cl, na, hz, k H2 (e1.trans e2)⟩
theorem q_fld (hv : Ev te σ H v) (ho : ∀ H1, Ex H H1 → Ev to σ H1 (.ref p)) (hp : H p = some (.ins C dx fs)) (cl : Cls K C) (na : NoAttr K C f) (hz : fs.length < 1000) (k : ∀ H1, Ex H H1 → tz D σ (upd H1 p (.ins C dx (putF f v fs)))) : tSeq (sFld K to te f) tz D σ H :=
  s_fld (D := { D with nx := tz D }) hv ho hp cl na hz k
end
theorem dps_of_tups {K : PySem.W.Frag} {H : Hp} {α : Type} (r : α → List V) (dd : α → PyData) (h : ∀ a t, H t = some (.tup (r a)) → Dp K H (.ref t) (dd a)) : ∀ {as : List α} {xs : List V}, Tups H xs (as.map r) → DpAll K H xs (as.map dd)
  | [], xs, q => by
    have := q.1
    rw [List.map_nil, List.length_nil] at this
    rw [List.eq_nil_of_length_eq_zero this]
    exact .nil
  | a :: as, [], q => by
    have := q.1
    simp at this
  | a :: as, x :: xs, q => by
    obtain ⟨t, h1, h2⟩ := q.2 0 (r a) rfl
    cases h1
    refine .cons (h a t h2) (dps_of_tups r dd h ⟨by have := q.1; simpa using this, fun i s hs => ?_⟩)
    have := q.2 (i + 1) s (by simpa using hs)
    simpa using this
theorem given_filter (l : List Int) (f : Int → Bool) : given l.length (fun i => f (l.getD i 0)) (fun i => V.int (l.getD i 0)) = (l.filter f).map V.int := by
  unfold given
  have e : l = (List.range l.length).map fun i => l.getD i 0 := by
    refine List.ext_getElem (by simp) fun i h1 h2 => ?_
    simp [List.getD_eq_getElem?_getD, List.getElem?_eq_getElem h1]
  conv => rhs; rw [e]
  rw [List.filter_map, List.map_map]
  rfl
section
variable {K : PySem.W.Frag} {σ : L2.St} {H H' : Hp} {te to : TE} {xs : List V} {D : Ends} {tz : TS} {g : TG}
theorem q_asgUG (h : EvU te σ H xs) (k : ∀ p H1, H p = none → Ex H H1 → H1 p = some (.tup xs) → g (.ref p) σ H1 (tz D)) : tSeq (tAsg te g) tz D σ H := h H (Ex.refl H) _ k
theorem s_asgUG (h : EvU te σ H xs) (k : ∀ p H1, H p = none → Ex H H1 → H1 p = some (.tup xs) → g (.ref p) σ H1 D.nx) : tAsg te g D σ H := h H (Ex.refl H) _ k
end
/-! ### up to a word of the value and the heap -/
def EvX (te : TE) (σ : L2.St) (H : Hp) (R : V → Hp → Prop) : Prop := ∀ Q : VK, (∀ v H1, R v H1 → Q v H1) → te σ H Q
section
variable {K : PySem.W.Frag} {σ : L2.St} {H H' : Hp} {te to ta : TE} {R R' : V → Hp → Prop} {D : Ends} {tz : TS} {g : TG} {f : Str} {r : List V → Hp → VK → Prop}
theorem evx_cb1 (h : EvX te σ H R) (k : ∀ v H1, R v H1 → ∀ Q : VK, (∀ z H2, R' z H2 → Q z H2) → r [v] H1 Q) : EvX (tCB r (tCons te tNil)) σ H R' := fun Q q => h _ fun v H1 hr => k v H1 hr Q q
theorem q_fldX (h : EvX te σ H R) (k : ∀ v H1, R v H1 → to σ H1 fun x H2 => ∃ a C dx fs, x = .ref a ∧ H2 a = some (.ins C dx fs) ∧ Cls K C ∧ NoAttr K C f ∧ fs.length < 1000 ∧ tz D σ (upd H2 a (.ins C dx (putF f v fs)))) : tSeq (sFld K to te f) tz D σ H := h _ k
theorem s_fldX (h : EvX te σ H R) (k : ∀ v H1, R v H1 → to σ H1 fun x H2 => ∃ a C dx fs, x = .ref a ∧ H2 a = some (.ins C dx fs) ∧ Cls K C ∧ NoAttr K C f ∧ fs.length < 1000 ∧ D.nx σ (upd H2 a (.ins C dx (putF f v fs)))) : sFld K to te f D σ H := h _ k
theorem q_asgX (h : EvX te σ H R) (k : ∀ v H1, R v H1 → g v σ H1 (tz D)) : tSeq (tAsg te g) tz D σ H := h _ k
theorem s_asgX (h : EvX te σ H R) (k : ∀ v H1, R v H1 → g v σ H1 D.nx) : tAsg te g D σ H := h _ k
theorem s_retX (h : EvX te σ H R) (k : ∀ v H1, R v H1 → D.rt v H1) : tRet te D σ H := h _ k
theorem q_dropX (h : EvX te σ H R) (k : ∀ v H1, R v H1 → tz D σ H1) : tSeq (tDrop te) tz D σ H := h _ k
theorem s_dropX (h : EvX te σ H R) (k : ∀ v H1, R v H1 → D.nx σ H1) : tDrop te D σ H := h _ k
end
/-- for j in range(e), e drawn -/
theorem s_forD {b : Addr × Addr} {σ : L2.St} {H : Hp} {te : TE} {tu : TS} {D : Ends} {j : Nat} {N : Int} (hb : Bag H b) (h : DrI b te σ H fun n => 0 ≤ n ∧ n ≤ N) (hN : N ≤ 100000) (Pv : Nat → L2.St → Hp → Prop) (h0 : ∀ H1, Step b H H1 → Pv 0 σ H1)
    (hs : ∀ (i : Nat) σ' H', (i : Int) < N → Pv i σ' H' → tu { D with nx := Pv (i + 1), ct := Pv (i + 1), bk := D.nx } (σ'.set j (some (.int (i : Int)))) H') (hd : ∀ i σ' H', Pv i σ' H' → D.nx σ' H') : tFor (iRng1 (tCons te tNil)) (gName j) tu D σ H :=
  h H (.refl hb) _ fun n H1 s1 hn => ⟨n, rfl, by omega, by omega, for_range (lo := 0) (n := n.toNat) Pv (h0 H1 s1) (fun i σ' H' hi p => by
    have e0 : (0 : Int) + (i : Int) = (i : Int) := Int.zero_add _
    show tu { D with nx := Pv (i + 1), ct := Pv (i + 1), bk := D.nx } (σ'.set j (some (.int ((0 : Int) + (i : Int))))) H'
    rw [e0]
    exact hs i σ' H' (by omega) p) (hd _)⟩
theorem q_forD {b : Addr × Addr} {σ : L2.St} {H : Hp} {te : TE} {tu : TS} {D : Ends} {tz : TS} {j : Nat} {N : Int} (hb : Bag H b) (h : DrI b te σ H fun n => 0 ≤ n ∧ n ≤ N) (hN : N ≤ 100000) (Pv : Nat → L2.St → Hp → Prop) (h0 : ∀ H1, Step b H H1 → Pv 0 σ H1)
    (hs : ∀ (i : Nat) σ' H', (i : Int) < N → Pv i σ' H' → tu { D with nx := Pv (i + 1), ct := Pv (i + 1), bk := tz D } (σ'.set j (some (.int (i : Int)))) H') (hd : ∀ i σ' H', Pv i σ' H' → tz D σ' H') : tSeq (tFor (iRng1 (tCons te tNil)) (gName j) tu) tz D σ H :=
  s_forD (D := { D with nx := tz D }) hb h hN Pv h0 hs hd
/-- if take(b, ..) == 0: either way -/
theorem q_any {b : Addr × Addr} {σ : L2.St} {H : Hp} {t : TT} {D : Ends} {tz ta tb : TS} (h : TAny (Step b) t σ H) (h1 : ∀ H2, Step b H H2 → ta { D with nx := tz D } σ H2) (h2 : ∀ H2, Step b H H2 → tb { D with nx := tz D } σ H2) : tSeq (tIfS t ta tb) tz D σ H := h _ fun c H2 s => by
  cases c with
  | true => exact h1 H2 s
  | false => exact h2 H2 s
theorem tany_dri {b : Addr × Addr} {σ : L2.St} {H : Hp} {te : TE} {p : Int → Prop} {c : Int} (hb : Bag H b) (h : DrI b te σ H p) : TAny (Step b) (tTest (tOp rEq te (tC (.int c)))) σ H := fun Q q =>
  h H (.refl hb) _ fun i H1 s _ => ⟨rfl, _, rfl, q _ _ s⟩
theorem tany_lt {b : Addr × Addr} {σ : L2.St} {H : Hp} {te : TE} {p : Int → Prop} {c : Int} (hb : Bag H b) (h : DrI b te σ H p) : TAny (Step b) (tTest (tOp (rI0 fun i j => .bl (decide (i < j))) te (tC (.int c)))) σ H := fun Q q =>
  h H (.refl hb) _ fun i H1 s _ => ⟨_, _, rfl, rfl, _, rfl, q _ _ s⟩
/-- max(a, e) -/
theorem dri_max2 {b : Addr × Addr} {σ : L2.St} {H : Hp} {ta tb : TE} {p q r : Int → Prop} (h1 : DrI b ta σ H p) (h2 : DrI b tb σ H q) (h : ∀ i j, p i → q j → r (if j > i then j else i)) : DrI b (tCB (fun xs H Q => ∃ i j, xs = [V.int i, V.int j] ∧ Q (.int (if j > i then j else i)) H) (tCons ta (tCons tb tNil))) σ H r := fun H1 s Q k =>
  h1 H1 s _ fun i H2 s2 pi => h2 H2 (s.trans s2) _ fun j H3 s3 qj => ⟨i, j, rfl, k _ H3 (s2.trans s3) (h i j pi qj)⟩
section
variable {K : PySem.W.Frag} {b : Addr × Addr} {σ : L2.St} {H : Hp} {ta tb ti te : TE} {p q r : Int → Prop} {D : Ends} {tz : TS}
theorem q_parD {i j : Nat} (hb : Bag H b) (h1 : DrI b ta σ H p) (h2 : DrI b tb σ H q) (k : ∀ x y H1, Step b H H1 → p x → q y → tz D ((σ.set i (some (.int x))).set j (some (.int y))) H1) : tSeq (tPar i j (tCons ta (tCons tb tNil))) tz D σ H :=
  h1 H (.refl hb) _ fun x H1 s1 px => h2 H1 s1 _ fun y H2 s2 qy => ⟨_, _, rfl, k x y H2 (s1.trans s2) px qy⟩
theorem dri_ixL {a : Addr} {j : Nat} {os : List Int} (hσ : σ[j]? = some (some (.ref a))) (ha : H a = some (.lst (os.map V.int))) (na : a ≠ b.1) (hi : DrI b ti σ H fun i => 0 ≤ i ∧ i < os.length) (hp : ∀ o ∈ os, p o) : DrI b (tOp (rIxL K) (tVar j) ti) σ H p := fun H1 s Q k =>
  ⟨_, hσ, hi H1 s _ fun i H2 s2 ⟨i0, i1⟩ => by
    obtain ⟨n, rfl⟩ := Int.eq_ofNat_of_zero_le i0
    have hn : n < os.length := by omega
    exact ⟨a, os.map V.int, (n : Int), .int os[n], rfl, rfl, sq_of ((s.trans s2).at na ha), atI_nat (by rw [List.getElem?_map, List.getElem?_eq_getElem hn]; rfl), k _ H2 s2 (hp _ (List.getElem_mem hn))⟩⟩
theorem dri_lenL {a : Addr} {j : Nat} {xs : List V} (hσ : σ[j]? = some (some (.ref a))) (ha : H a = some (.lst xs)) (na : a ≠ b.1) (hp : p xs.length) : DrI b (tCB (rLen K) (tCons (tVar j) tNil)) σ H p := fun H1 s Q k =>
  ⟨_, hσ, a, xs, rfl, .inl (sq_of (s.at na ha)), k _ H1 (.refl s.1) hp⟩
theorem dri_ev {i : Int} (h : ∀ H1, Step b H H1 → Ev te σ H1 (.int i)) (hp : p i) : DrI b te σ H p := fun H1 s Q k => h H1 s H1 (Ex.refl _) Q fun H2 e => k i H2 (.pure s.1 e) hp
end
section
variable {K : PySem.W.Frag} {σ : L2.St} {H : Hp} {ta tb te : TE} {R : V → Hp → Prop} {S : V → V → Hp → Prop} {D : Ends} {tz tu : TS} {xs : List V} {E : XK}
theorem EvL.x (h : EvL te σ H xs) : EvX te σ H fun v H1 => ∃ p, v = .ref p ∧ H p = none ∧ Ex H H1 ∧ H1 p = some (.lst xs) := fun Q q => h H (Ex.refl _) Q fun p H1 h0 e h1 => q _ _ ⟨p, rfl, h0, e, h1⟩
theorem EvU.x (h : EvU te σ H xs) : EvX te σ H fun v H1 => ∃ p, v = .ref p ∧ H p = none ∧ Ex H H1 ∧ H1 p = some (.tup xs) := fun Q q => h H (Ex.refl _) Q fun p H1 h0 e h1 => q _ _ ⟨p, rfl, h0, e, h1⟩
theorem Ev.x {v : V} (h : Ev te σ H v) : EvX te σ H fun u H1 => u = v ∧ Ex H H1 := fun Q q => h H (Ex.refl _) Q fun H1 e => q _ _ ⟨rfl, e⟩
/-- if not alike(a, b): return False -/
theorem s_alikeX (h1 : EvX ta σ H R) (h2 : ∀ v H1, R v H1 → EvX tb σ H1 (S v)) (h : ∀ v u H2, S v u H2 → ∃ d, Dp K H2 v d ∧ Dp K H2 u d ∧ Wm.Rep 60 1000000 d) (k : ∀ v u H2 H3, S v u H2 → Ex H2 H3 → D.nx σ H3) : tIfS (tNot (tB (tCl (Wm.spAlike K) E (tCons ta (tCons tb tNil))))) tu tNext D σ H :=
  h1 _ fun v H1 r1 => h2 v H1 r1 _ fun u H2 r2 => let ⟨d, hv, hu, hr⟩ := h v u H2 r2; ⟨v, u, d, rfl, hv, hu, hr, fun H3 e3 => ⟨true, rfl, k v u H2 H3 r2 e3⟩⟩
theorem q_alikeX (h1 : EvX ta σ H R) (h2 : ∀ v H1, R v H1 → EvX tb σ H1 (S v)) (h : ∀ v u H2, S v u H2 → ∃ d, Dp K H2 v d ∧ Dp K H2 u d ∧ Wm.Rep 60 1000000 d) (k : ∀ v u H2 H3, S v u H2 → Ex H2 H3 → tz D σ H3) : tSeq (tIfS (tNot (tB (tCl (Wm.spAlike K) E (tCons ta (tCons tb tNil))))) tu tNext) tz D σ H := s_alikeX (D := { D with nx := tz D }) h1 h2 h k
end
section
variable {X : Cx}
/-- d.update(e), e another dict -/
def rUpdate : V → List V → Hp → VK → Prop := fun x vs H Q => ∃ a b ks ls, x = .ref a ∧ vs = [.ref b] ∧ H a = some (.dK ks) ∧ H b = some (.dK ls) ∧ a ≠ b ∧ ks.length + ls.length ≤ sizeLine ∧ Q .non (upd H a (.dK (mergeK ks ls)))
theorem mt_update : MtR X "dict.update" rUpdate := by
  intro pins s σ H x vs v us Q I rx rv h
  obtain ⟨a, b, ks, ls, rfl, rfl, ha, hb, ne, hz, q⟩ := h
  obtain rfl : v = Value.ref a := rx
  obtain ⟨u, rfl, ru⟩ := rv.one
  obtain rfl : u = Value.ref b := ru
  obtain ⟨z, hd, va, rel, dd⟩ := dk_of I.hok ha
  obtain ⟨z2, hd2, vb, rel2, dd2⟩ := dk_of I.hok hb
  refine call_meetsIn PySem.F.slot_dict_update dd.typeIs PySem.F.entry_dict_update (PySem.F.args_dict_update_2 _ _) (meets_dict_update (mixKind X.prog X.w) a b ne hd2) ⟨va, vb, dd, dd2, by rw [← rel.length, ← rel2.length]; exact hz, fun h' dd' _ hs => ?_⟩
  have he : ∃ q, h'.get? a = some q := let ⟨q, _, _, hq, _⟩ := dd'; ⟨q, hq⟩
  have hl : (mergeK ks ls).length ≤ sizeLine := Nat.le_trans (length_mergeK _ _) hz
  exact ⟨.non, _, d_write I (by rw [ha]; exact True.intro) hs he (dk_new hl hd (KV.merge rel2 rel) dd'), rfl, q⟩
end
/-! ### dicts walked by keys, under a lock -/
section
variable {K : PySem.W.Frag} {σ : L2.St} {H : Hp} {td te : TE} {tt : TT} {ta : TA}
theorem lc_keysV {d : Addr} {kvs : List (Key × V)} {j : Nat} {vs : List Nat} (f : Nat → Bool) (v : Nat → V) (hd : H d = some (.dK kvs)) (hz : kvs.length ≤ 40000) (hw : ∀ x, wipe ((wipe σ vs).set j (some x)) vs = wipe σ vs) (hl : ∀ od, Ev td σ (upd H d (.frz od (.dK kvs))) (.ref d))
    (ht : ∀ od (i : Nat) kv H1, Ex (upd H d (.frz od (.dK kvs))) H1 → kvs[i]? = some kv → EvT tt ((wipe σ vs).set j (some (kV kv.1))) H1 (f i))
    (he : ∀ od (i : Nat) kv H1, Ex (upd H d (.frz od (.dK kvs))) H1 → kvs[i]? = some kv → f i = true → Ev te ((wipe σ vs).set j (some (kV kv.1))) H1 (v i)) :
    EvX (tLockE (tLc (iKeys td) (gName j) tt te vs)) σ H fun u H2 => ∃ p, u = .ref p ∧ H p = none ∧ Ex H H2 ∧ H2 p = some (.lst (given kvs.length f v)) := by
  intro Q q
  refine ⟨d, .dK kvs, hd, trivial, fun od => ?_⟩
  refine hl od _ (Ex.refl _) _ fun H1 e1 => ⟨d, od, rfl, .inl ⟨kvs, e1 _ _ upd_same, fun D hD => ?_⟩⟩
  have nd : D ≠ d := fun e => by rw [e, e1 _ _ upd_same] at hD; cases hD
  have hD0 : H D = none := by
    have := fresh_back e1 hD
    rw [upd_ne nd] at this
    exact this
  refine lc_it walk_keys (Cw H1 f v D) ⟨hD, Ex.new hD, upd_same⟩ (fun i H' _ p => p.2.1 _ _ (e1 _ _ upd_same)) ?_ fun H' p => ?_
  · rintro i x H2 H3 hi p ⟨rfl, k, u, hk, rfl⟩
    exact ⟨hw _, cw_turn p (by omega) (ht od i (k, u) H1 e1 hk) (fun hf => he od i (k, u) H1 e1 hk hf)⟩
  · have e12 := e1.trans p.2.1
    exact ⟨e12 _ _ upd_same, q _ _ ⟨D, rfl, hD0, Ex.lock hd e12, by rw [upd_ne nd]; exact p.2.2⟩⟩
theorem lc_keysU {d : Addr} {kvs : List (Key × V)} {j : Nat} {vs : List Nat} (v : Key × V → List V) (hd : H d = some (.dK kvs)) (hz : kvs.length ≤ 40000) (hw : ∀ x, wipe ((wipe σ vs).set j (some x)) vs = wipe σ vs) (hl : ∀ od, Ev td σ (upd H d (.frz od (.dK kvs))) (.ref d))
    (he : ∀ od kv H1, Ex (upd H d (.frz od (.dK kvs))) H1 → kv ∈ kvs → EvU te ((wipe σ vs).set j (some (kV kv.1))) H1 (v kv)) :
    EvX (tLockE (tLc (iKeys td) (gName j) tYes te vs)) σ H fun u H2 => ∃ p xs, u = .ref p ∧ H p = none ∧ Ex H H2 ∧ H2 p = some (.lst xs) ∧ Tups H2 xs (kvs.map v) := by
  intro Q q
  refine ⟨d, .dK kvs, hd, trivial, fun od => ?_⟩
  refine hl od _ (Ex.refl _) _ fun H1 e1 => ⟨d, od, rfl, .inl ⟨kvs, e1 _ _ upd_same, fun D hD => ?_⟩⟩
  have nd : D ≠ d := fun e => by rw [e, e1 _ _ upd_same] at hD; cases hD
  have hD0 : H D = none := by
    have := fresh_back e1 hD
    rw [upd_ne nd] at this
    exact this
  refine lc_it walk_keys (fun i H' => ∃ acc, Ex H1 H' ∧ H' D = some (.lst acc) ∧ Tups H' acc ((kvs.take i).map v) ∧ acc.length = i) ⟨[], Ex.new hD, upd_same, Tups.nil, rfl⟩ (fun i H' _ p => let ⟨_, e2, _⟩ := p; e2 _ _ (e1 _ _ upd_same)) ?_ ?_
  · rintro i x H2 H3 hi ⟨acc, e2, h2, ht, hlen⟩ ⟨rfl, k, u, hk, rfl⟩
    refine ⟨hw _, ?_⟩
    refine (yes_ok : EvT tYes _ _ true) _ (Ex.refl _) _ fun H4 e4 => ?_
    rw [if_pos rfl]
    refine he od (k, u) _ ((e1.trans e2).trans e4) (List.mem_of_getElem? hk) _ (Ex.refl _) _ fun p H5 p0 e5 hp => ⟨acc, e5 _ _ (e4 _ _ h2), sz_lt (by omega), acc ++ [.ref p], Ex.mut ((e2.trans e4).trans e5) hD, upd_same, ?_, by rw [List.length_append, hlen]; rfl⟩
    have h25 := e5 _ _ (e4 _ _ h2)
    rw [take_snoc hk, List.map_append]
    refine Tups.snoc (Tups.mut (ht.ex (e4.trans e5)) ?_) ?_
    · intro r
      rw [h25]
      exact fun z => nomatch z
    · have : p ≠ D := fun e => by rw [e, e4 _ _ h2] at p0; cases p0
      rw [upd_ne this]
      exact hp
  · rintro H' ⟨acc, e2, h2, ht, hlen⟩
    rw [List.take_length] at ht
    have e12 := e1.trans e2
    refine ⟨e12 _ _ upd_same, q _ _ ⟨D, acc, rfl, hD0, Ex.lock hd e12, by rw [upd_ne nd]; exact h2, ht.mut fun r => ?_⟩⟩
    rw [e12 _ _ upd_same]
    exact fun z => nomatch z
end
theorem mergeK_new : ∀ {ls ks : List (Key × V)}, ((ks ++ ls).map (·.1)).Nodup → mergeK ks ls = ks ++ ls
  | [], ks, _ => (List.append_nil ks).symm
  | p :: ls, ks, h => by
    have hp : p.1 ∉ ks.map (·.1) := by
      rw [List.map_append, List.map_cons, List.nodup_append] at h
      intro hm
      exact h.2.2 _ hm _ List.mem_cons_self rfl
    show mergeK (putK ks p.1 p.2) ls = _
    rw [putK_new hp, mergeK_new (by rw [List.append_assoc]; exact h), List.append_assoc]
    rfl
/-- int(e == c) -/
theorem dri_eqI {b : Addr × Addr} {σ : L2.St} {H : Hp} {ta : TE} {p : Int → Prop} {c : Int} (h1 : DrI b ta σ H p) : DrI b (tCB (fun xs H Q => (∃ i, xs = [V.int i] ∧ Q (.int i) H) ∨ ∃ k, xs = [V.bl k] ∧ Q (.int (if k then 1 else 0)) H) (tCons (tOp rEq ta (tC (.int c))) tNil)) σ H fun x => 0 ≤ x ∧ x < 2 := fun H1 s Q k =>
  h1 H1 s _ fun i H2 s2 pi => ⟨rfl, .inr ⟨_, rfl, k _ H2 s2 (by split <;> omega)⟩⟩
end Lf
end
section
set_option Elab.async false
set_option linter.all false
set_option maxRecDepth 100000
set_option maxHeartbeats 4000000
/-! Ly: setdefault with a key that is a tuple. -/
namespace Lf
open PySem PySem.Spec PyProof.Rows L2
open Evl
variable {X : Cx}
theorem u2 {k : Nat} {A : Around} (hr : Room k A) : A.units + 1 < cLine := by have := hr.un; omega
def rSetdT : V → List V → Hp → VK → Prop := fun x xs H Q => ∃ (a : Addr) (kvs : List (List L2.Key × V)) (k : List L2.Key) (b : Addr) (d : V), x = .ref a ∧ xs = [.ref b, d] ∧ H a = some (.dT kvs) ∧ H b = some (.tup (k.map kV)) ∧ kvs.length < sizeLine ∧
  (∀ v, valV kvs k = some v → Q v H) ∧ (valV kvs k = none → Q d (upd H a (.dT (putK kvs k d))))
theorem mt_setdT (hu : X.A.units + 1 < cLine) : MtR X "dict.setdefault" rSetdT := by
  intro pins s σ H x xs v us Q I rx rxs h
  obtain ⟨a, kvs, k, b, d, rfl, rfl, ha, hb, hl, q1, q2⟩ := h
  cases rx
  obtain ⟨u1, u2, rfl, r1, r2⟩ := vals2 rxs
  cases r1
  obtain ⟨z, hd, xs', rel, dd⟩ := dt_of I.hok ha
  have hz : xs'.length ≤ sizeLine := by rw [← Paired.length rel]; exact z
  refine call_setdefault_heap (hsz := hz) (tupleKind_room_in1 hu) (key_of I.hok hb) hd dd (fun p hp => ?_) fun hn h' dd' hs => ?_
  · have r := rel.val k
    rw [hp] at r
    obtain ⟨v0, ev, rv⟩ : ∃ v0, valV kvs k = some v0 ∧ RelV v0 p.2 := by
      cases ev : valV kvs k with
      | none =>
        rw [ev] at r
        exact (show False from r).elim
      | some v0 =>
        rw [ev] at r
        exact ⟨v0, rfl, r⟩
    show EP X pins σ Q p.2 _
    exact ⟨v0, H, I.tok _, rv, q1 v0 ev⟩
  · have r := rel.val k
    rw [hn] at r
    have e : valV kvs k = none := by
      cases ev : valV kvs k with
      | none => rfl
      | some v0 =>
        rw [ev] at r
        exact (show False from r).elim
    have hl2 : (putK kvs k d).length ≤ sizeLine := by have := length_putK kvs k d; omega
    obtain ⟨q, es, ep, hq, h2, h3, h4, _, h5⟩ := dd'
    refine ⟨d, upd H a (.dT (putK kvs k d)), d_write I (by rw [ha]; exact True.intro) hs ⟨q, hq⟩ ⟨hl2, hd, _, (rel.put k hb r2).keeps fun c ys ec => ?_, q, es, ep, hq, h2, h3, h4, h5⟩, r2, q2 e⟩
    rw [upd_ne (ne_of ec ha (fun z => nomatch z))]
    exact ec
end Lf
end
section
set_option Elab.async false
set_option linter.all false
set_option maxRecDepth 100000
set_option maxHeartbeats 4000000
namespace Lf
open PySem PySem.Spec PyProof.Rows L2
open Evl
/-! ### text * int, text[::-1], told by how long the answer is -/
section
variable {X : Cx}
def rRepS : R2 := fun x y H Q => ∃ z n, x = .str z ∧ y = .int n ∧ 0 ≤ n ∧ n ≤ 1000 ∧ z.length ≤ 1000 ∧ ∀ r : Str, r.length = z.length * n.toNat → Q (.str r) H
theorem foldl_size : ∀ (n : Nat) (x acc : Array Cp), ((List.replicate n x).foldl (· ++ ·) acc).size = acc.size + x.size * n
  | 0, x, acc => by rw [List.replicate_zero, List.foldl_nil, Nat.mul_zero, Nat.add_zero]
  | n + 1, x, acc => by rw [List.replicate_succ, List.foldl_cons, foldl_size n, Array.size_append, Nat.mul_succ]; omega
theorem op_repS : OpR X (binaryOp .Mult) rRepS := by
  intro pins s σ H x y v u Q I rx ry h
  obtain ⟨z, n, rfl, rfl, n0, n1, hz, q⟩ := h
  obtain ⟨t, rfl⟩ := rx
  obtain ⟨t', rfl⟩ := ry
  obtain ⟨m, rfl⟩ := Int.eq_ofNat_of_zero_le n0
  have hm : m ≤ 1000 := by omega
  have hp : z.length * m ≤ 1000 * 1000 := Nat.mul_le_mul hz hm
  have hs : 1000 * 1000 ≤ sizeLine := by decide
  refine PySem.P.mul_str ?_ (fun h1 _ => ?_) (fun _ _ => ?_) ?_
  · rw [decide_eq_false (by omega), decide_eq_false (by omega)]; rfl
  · have h1 : 1 ≤ m := by omega
    have : (1000 : Int) ≤ (2 ^ 63 - 1) / (m : Int) := Int.le_ediv_of_mul_le (by omega) (by omega)
    omega
  · rw [Int.toNat_natCast]
    show decide (_ > sizeLine) = false
    exact decide_eq_false (by omega)
  · split
    · have h1 : m = 0 := by omega
      exact ⟨by decide, .str Str.empty, H, I.tok _, ⟨_, rfl⟩, q _ (by subst h1; rfl)⟩
    · split
      · rename_i h1 h2
        refine ⟨.str z, H, I, ⟨_, rfl⟩, q _ ?_⟩
        rcases Bool.or_eq_true_iff.mp h2 with h3 | h3
        · have : m = 1 := by have := eq_of_beq h3; omega
          subst this
          exact (Nat.mul_one _).symm
        · have : z.length = 0 := eq_of_beq h3
          rw [this, Nat.zero_mul]
      · have e : Str.length (⟨(List.replicate ((m : Nat) : Int).toNat z.cps).foldl (· ++ ·) #[]⟩ : Str) = z.length * m := by
          show ((List.replicate ((m : Nat) : Int).toNat z.cps).foldl (· ++ ·) #[]).size = _
          rw [foldl_size, Int.toNat_natCast]
          show 0 + z.length * m = _
          rw [Nat.zero_add]
        exact ⟨by rw [e]; omega, .str _, H, I.tok _, ⟨_, rfl⟩, q _ (by rw [e, Int.toNat_natCast])⟩
theorem back_ix (n : Nat) : Builtin.Str.strSliceIndices none none (-1) n = (List.range n).map fun k => n - 1 - k := by
  unfold Builtin.Str.strSliceIndices
  simp only [show ¬ ((-1 : Int) > 0) by decide, if_false]
  unfold sliceRange
  simp only [show ¬ ((-1 : Int) > 0) by decide, if_false]
  cases n with
  | zero => rfl
  | succ m =>
    have e1 : ((m + 1 : Nat) : Int) - 1 > -1 := by omega
    have e2 : ((((m + 1 : Nat) : Int) - 1 - -1 - -1 - 1) / (- -1)).toNat = m + 1 := by
      rw [show (- -1 : Int) = 1 from rfl, Int.ediv_one]
      omega
    rw [if_pos e1, e2]
    refine List.map_congr_left fun k hk => ?_
    have := List.mem_range.mp hk
    omega
theorem back_len (z : Str) : Str.length (⟨((Builtin.Str.strSliceIndices none none (-1) z.length).filterMap (z.cps[·]?)).toArray⟩ : Str) = z.length := by
  show (List.filterMap _ _).toArray.size = _
  rw [List.size_toArray, back_ix]
  have : ∀ l : List Nat, (∀ x ∈ l, x < z.length) → (l.filterMap (z.cps[·]?)).length = l.length := by
    intro l
    induction l with
    | nil => intro _; rfl
    | cons x l ih =>
      intro h
      have hx : x < z.cps.size := h x List.mem_cons_self
      rw [List.filterMap_cons, Array.getElem?_eq_getElem hx]
      show _ + 1 = _ + 1
      rw [ih fun y hy => h y (List.mem_cons_of_mem _ hy)]
  rw [this, List.length_map, List.length_range]
  intro x hx
  obtain ⟨k, hk, rfl⟩ := List.mem_map.mp hx
  have := List.mem_range.mp hk
  omega
def tRevS (te : TE) : TE := fun σ H Q => te σ H fun x H1 => ∃ z, x = .str z ∧ z.length ≤ 1000 ∧ ∀ r : Str, r.length = z.length → Q (.str r) H1
theorem pe_revS {e : Expr} {te : TE} {k : Nat} {p1 p2 p3 pos : Pos} (he : PE X e te) : PE X (.Subscript e (.Slice none none (some (.UnaryOp .USub (.Constant (.int 1) k p1) p2)) p3) pos) (tRevS te) := by
  refine ⟨fun pins s σ H Q I h => ?_⟩
  refine Subscript_ (thn (he.run pins s σ H _ I h) fun v s1 ⟨x, H1, I1, r1, q1⟩ => ?_)
  obtain ⟨z, ex, hz, q⟩ := q1
  subst ex
  obtain ⟨t, rfl⟩ := r1
  have hst : PO X (some (.UnaryOp .USub (.Constant (.int 1) k p1) p2)) (tPart (tUn (rU fun i => .int (-i)) (tC (.int 1)))) := po_some (pe_un un_neg pe_int)
  refine wpAny_Slice (thn (po_none.run pins s1 σ H1 (fun o H2 => o = none ∧ H2 = H1) I1 ⟨rfl, rfl⟩) fun vl s2 ⟨l, H2, I2, pl, el, e2⟩ => ?_)
  subst el e2
  refine thn (po_none.run pins s2 σ H2 (fun o H3 => o = none ∧ H3 = H2) I2 ⟨rfl, rfl⟩) fun vu s3 ⟨u, H3, I3, pu, eu, e3⟩ => ?_
  subst eu e3
  refine thn (hst.run pins s3 σ H3 (fun o H4 => o = some (-1) ∧ H4 = H3) I3 ⟨1, rfl, -1, rfl, rfl, rfl⟩) fun vs s4 ⟨o, H4, I4, ps, eo, e4⟩ => ?_
  subst eo e4
  have I5 : Inv X pins σ H4 { s4 with heap := s4.heap.push { cls := .type "slice", data := .fields #[vl, vu, vs] } } := I4.kept (t' := s4.toks) fun b ob q => Heap.get?_push_of_some _ q
  obtain ⟨l', rfl, el⟩ := IsPart.raw pl
  obtain ⟨u', rfl, eu⟩ := IsPart.raw pu
  obtain ⟨w', rfl, ew⟩ := IsPart.raw ps
  cases l' with
  | some l' => cases el
  | none =>
    cases u' with
    | some u' => cases eu
    | none =>
      cases w' with
      | none => cases ew
      | some w' =>
        obtain ⟨w', tw⟩ := w'
        cases ew
        show wpAny (model X.prog X.w) X.A (subscriptTail e (.Slice none none (some (.UnaryOp .USub (.Constant (.int 1) k p1) p2)) p3) (.str z t) (.ref s4.heap.objs.size)) (EP X pins σ Q) X.xe _
        refine tail_any (ops := [.str z t, .ref s4.heap.objs.size]) (typeIs_str _ z t) (F.slot_str_getitem.lookup) ?_ (by with_unfolding_all rfl)
        refine wpAny_getItem_str_slice (l := none) (u := none) (st := some (-1, tw)) ⟨_, Heap.get?_push_size _ rfl, rfl, rfl⟩ rfl ?_
        unfold sliceMade
        simp only [Option.map_some, Option.getD_some, show ((Int.negSucc 0 : Int) == 1) = false from rfl, show ((-1 : Int) == 1) = false from rfl, Bool.false_and, Bool.false_eq_true, if_false]
        have e : Str.length (⟨((slicePicked z none none (some (-1, tw))).filterMap (z.cps[·]?)).toArray⟩ : Str) = z.length := back_len z
        have h3 : 1000 ≤ sizeLine := by decide
        exact ⟨by rw [e]; omega, .str _, H4, I5.tok _, ⟨_, rfl⟩, q _ e⟩
theorem k_revS {p1 p2 p3 : Pos} {kk : Nat} (he : PE X e te) : PE X (.Subscript e (.Slice none none (some (.UnaryOp .USub (.Constant (.int 1) kk p1) p2)) p3) pos) (tRevS te) := pe_revS he
end
end Lf
end
section
set_option Elab.async false
set_option linter.all false
set_option maxRecDepth 100000
set_option maxHeartbeats 4000000
/-! the mathematics of distances: which places come to be reached, step by step -/
namespace Wm
open PySem PySem.Spec PyProof.Rows L2 Lf
open Evl
def rch (ps : PS) (al : List Nat) : Nat → Nat → Bool
  | 0, p => decide (p = 0)
  | k + 1, p => decide (p ∈ al) && (rowOf ps p).any fun q => rch ps al k q
def dist (ps : PS) (al : List Nat) (s p : Nat) : Option Nat := (List.range s).find? fun k => rch ps al k p
def edgeAt (ps : PS) (al : List Nat) : Nat → List Nat
  | 0 => [0]
  | s + 1 => al.filter fun p => (dist ps al (s + 1) p).isNone && (rowOf ps p).any fun x => decide (x ∈ edgeAt ps al s)
def far (m : Nat) (ps : PS) (al : List Nat) (p : Nat) : Option Nat := dist ps al m p
section
variable {ps : PS} {al : List Nat}
theorem rch_succ {k p : Nat} : rch ps al (k + 1) p = true ↔ p ∈ al ∧ ∃ q, q ∈ rowOf ps p ∧ rch ps al k q = true := by
  show (decide (p ∈ al) && (rowOf ps p).any fun q => rch ps al k q) = true ↔ _
  rw [Bool.and_eq_true, decide_eq_true_eq, List.any_eq_true]
theorem dist_none {s p : Nat} : dist ps al s p = none ↔ ∀ k, k < s → rch ps al k p = false := by
  unfold dist
  rw [List.find?_eq_none]
  constructor
  · intro h k hk
    have := h k (List.mem_range.mpr hk)
    simpa using this
  · intro h k hk
    rw [h k (List.mem_range.mp hk)]
    decide
theorem dist_some {s p k : Nat} : dist ps al s p = some k ↔ k < s ∧ rch ps al k p = true ∧ ∀ j, j < k → rch ps al j p = false := by
  unfold dist
  rw [List.find?_range_eq_some]
  constructor
  · rintro ⟨h1, h2, h3⟩
    exact ⟨List.mem_range.mp h2, h1, fun j hj => by simpa using h3 j hj⟩
  · rintro ⟨h1, h2, h3⟩
    exact ⟨h2, List.mem_range.mpr h1, fun j hj => by rw [h3 j hj]; decide⟩
theorem mem_edge : ∀ {s p : Nat}, p ∈ edgeAt ps al s ↔ rch ps al s p = true ∧ dist ps al s p = none
  | 0, p => by
    show p ∈ [0] ↔ decide (p = 0) = true ∧ _
    rw [List.mem_singleton, decide_eq_true_eq]
    exact ⟨fun h => ⟨h, rfl⟩, fun h => h.1⟩
  | s + 1, p => by
    show p ∈ al.filter _ ↔ _
    rw [List.mem_filter, Bool.and_eq_true, List.any_eq_true, rch_succ]
    constructor
    · rintro ⟨h1, h2, q, h3, h4⟩
      have h4 := mem_edge.mp (of_decide_eq_true h4)
      exact ⟨⟨h1, q, h3, h4.1⟩, Option.isNone_iff_eq_none.mp h2⟩
    · rintro ⟨⟨h1, q, h3, h4⟩, h2⟩
      refine ⟨h1, Option.isNone_iff_eq_none.mpr h2, q, h3, decide_eq_true (mem_edge.mpr ⟨h4, dist_none.mpr fun j hj => ?_⟩)⟩
      have h5 := dist_none.mp h2 (j + 1) (by omega)
      cases h6 : rch ps al j q with
      | false => rfl
      | true =>
        rw [rch_succ.mpr ⟨h1, q, h3, h6⟩] at h5
        cases h5
theorem dist_succ {s p : Nat} : dist ps al (s + 1) p = if p ∈ edgeAt ps al s then some s else dist ps al s p := by
  by_cases h : p ∈ edgeAt ps al s
  · rw [if_pos h]
    have h1 := mem_edge.mp h
    exact dist_some.mpr ⟨by omega, h1.1, fun j hj => dist_none.mp h1.2 j hj⟩
  · rw [if_neg h]
    cases h1 : dist ps al s p with
    | some k =>
      have h2 := dist_some.mp h1
      exact dist_some.mpr ⟨by omega, h2.2⟩
    | none =>
      refine dist_none.mpr fun k hk => ?_
      by_cases e : k = s
      · subst e
        cases h2 : rch ps al k p with
        | false => rfl
        | true => exact absurd (mem_edge.mpr ⟨h2, h1⟩) h
      · exact dist_none.mp h1 k (by omega)
theorem stop_all {s : Nat} (h : edgeAt ps al s = []) : ∀ {k p : Nat}, rch ps al k p = true → dist ps al s p ≠ none := by
  have no : ∀ p, rch ps al s p = true → dist ps al s p ≠ none := fun p h1 h2 => by
    have := mem_edge.mpr ⟨h1, h2⟩
    rw [h] at this
    cases this
  intro k
  induction k with
  | zero =>
    intro p h1 h2
    by_cases e : s = 0
    · subst e
      exact no p h1 h2
    · rw [dist_none.mp h2 0 (by omega)] at h1
      cases h1
  | succ k ih =>
    intro p h1 h2
    obtain ⟨h3, q, h4, h5⟩ := rch_succ.mp h1
    cases h6 : dist ps al s q with
    | none => exact ih h5 h6
    | some j =>
      have h7 := dist_some.mp h6
      have h8 : rch ps al (j + 1) p = true := rch_succ.mpr ⟨h3, q, h4, h7.2.1⟩
      by_cases e : j + 1 = s
      · exact no p (e ▸ h8) h2
      · rw [dist_none.mp h2 (j + 1) (by omega)] at h8
        cases h8
theorem stop_same {s t : Nat} (h : edgeAt ps al s = []) (hst : s ≤ t) (p : Nat) : dist ps al t p = dist ps al s p := by
  cases h1 : dist ps al s p with
  | some k =>
    have h2 := dist_some.mp h1
    exact dist_some.mpr ⟨by omega, h2.2⟩
  | none =>
    refine dist_none.mpr fun k _ => ?_
    cases h2 : rch ps al k p with
    | false => rfl
    | true => exact absurd h1 (stop_all h h2)
theorem count_lt {p q : Nat → Bool} : ∀ {l : List Nat}, (∀ x ∈ l, p x = true → q x = true) → (∃ x ∈ l, q x = true ∧ p x = false) → l.countP p < l.countP q
  | [], _, h => by
    obtain ⟨x, hx, _⟩ := h
    cases hx
  | a :: l, h, h2 => by
    have le : l.countP p ≤ l.countP q := List.countP_mono_left fun x hx => h x (List.mem_cons_of_mem _ hx)
    rw [List.countP_cons, List.countP_cons]
    obtain ⟨x, hx, h3, h4⟩ := h2
    rcases List.mem_cons.mp hx with rfl | hx
    · rw [h3, h4]
      simp
      omega
    · have lt : l.countP p < l.countP q := count_lt (fun x hx => h x (List.mem_cons_of_mem _ hx)) ⟨x, hx, h3, h4⟩
      have := h a List.mem_cons_self
      cases hp : p a with
      | false =>
        rw [if_neg Bool.false_ne_true]
        omega
      | true =>
        rw [this hp]
        simp
        omega
theorem edge_lt {m : Nat} (h0 : 0 < m) (ha : ∀ p ∈ al, p < m) : ∀ {s p : Nat}, p ∈ edgeAt ps al s → p < m
  | 0, p, h => by
    rw [List.mem_singleton.mp h]
    exact h0
  | s + 1, p, h => ha p (List.mem_filter.mp h).1
theorem steps_le {m : Nat} (h0 : 0 < m) (ha : ∀ p ∈ al, p < m) : ∀ s, (∀ j, j < s → edgeAt ps al j ≠ []) → s + (List.range m).countP (fun p => (dist ps al s p).isNone) ≤ m
  | 0, _ => by
    have := List.countP_le_length (p := fun p => (dist ps al 0 p).isNone) (l := List.range m)
    rw [List.length_range] at this
    omega
  | s + 1, h => by
    have ih := steps_le h0 ha s fun j hj => h j (by omega)
    have lt : (List.range m).countP (fun p => (dist ps al (s + 1) p).isNone) < (List.range m).countP (fun p => (dist ps al s p).isNone) := by
      refine count_lt (fun x _ hx => ?_) ?_
      · have h1 := dist_none.mp (Option.isNone_iff_eq_none.mp hx)
        exact Option.isNone_iff_eq_none.mpr (dist_none.mpr fun k hk => h1 k (by omega))
      · obtain ⟨p, hp⟩ := List.exists_mem_of_ne_nil _ (h s (Nat.lt_succ_self s))
        refine ⟨p, List.mem_range.mpr (edge_lt h0 ha hp), Option.isNone_iff_eq_none.mpr (mem_edge.mp hp).2, ?_⟩
        rw [dist_succ, if_pos hp]
        rfl
    omega
theorem stops {m : Nat} (h0 : 0 < m) (ha : ∀ p ∈ al, p < m) : ∃ s, s ≤ m ∧ edgeAt ps al s = [] := by
  refine Classical.byContradiction fun h => ?_
  have := steps_le (ps := ps) h0 ha (m + 1) fun j hj e => h ⟨j, by omega, e⟩
  omega
theorem far_none {m p : Nat} (h0 : 0 < m) (ha : ∀ p ∈ al, p < m) : far m ps al p = none ↔ ∀ k, rch ps al k p = false := by
  obtain ⟨s, hs, he⟩ := stops (ps := ps) h0 ha
  unfold far
  rw [stop_same he hs]
  constructor
  · intro h k
    cases h1 : rch ps al k p with
    | false => rfl
    | true => exact absurd h (stop_all he h1)
  · intro h
    exact dist_none.mpr fun k _ => h k
theorem far_some {m p k : Nat} (h0 : 0 < m) (ha : ∀ p ∈ al, p < m) : far m ps al p = some k ↔ rch ps al k p = true ∧ ∀ j, j < k → rch ps al j p = false := by
  obtain ⟨s, hs, he⟩ := stops (ps := ps) h0 ha
  constructor
  · intro h
    exact (dist_some.mp h).2
  · rintro ⟨h1, h2⟩
    cases h3 : far m ps al p with
    | none =>
      rw [(far_none h0 ha).mp h3 k] at h1
      cases h1
    | some j =>
      have h4 := (dist_some.mp h3).2
      by_cases e : j < k
      · rw [h2 j e] at h4
        cases h4.1
      · by_cases e2 : k < j
        · rw [h4.2 k e2] at h1
          cases h1
        · rw [show j = k by omega]
end
/-! fewer pairs -/
def SubP (ps qs : PS) : Prop := ∀ p ∈ ps, p ∈ qs
theorem mem_row {ps : PS} {i n : Nat} : n ∈ rowOf ps i ↔ ∃ p ∈ ps, (p.1 = i ∧ n = p.2) ∨ (p.1 ≠ i ∧ p.2 = i ∧ n = p.1) := by
  unfold rowOf
  rw [List.mem_filterMap]
  constructor
  · rintro ⟨p, hp, h⟩
    refine ⟨p, hp, ?_⟩
    by_cases e : p.1 = i
    · rw [if_pos e] at h
      exact .inl ⟨e, (Option.some.inj h).symm⟩
    · rw [if_neg e] at h
      by_cases e2 : p.2 = i
      · rw [if_pos e2] at h
        exact .inr ⟨e, e2, (Option.some.inj h).symm⟩
      · rw [if_neg e2] at h
        cases h
  · rintro ⟨p, hp, ⟨e, rfl⟩ | ⟨e, e2, rfl⟩⟩
    · exact ⟨p, hp, if_pos e⟩
    · exact ⟨p, hp, by rw [if_neg e, if_pos e2]⟩
theorem row_sub {ps qs : PS} (h : SubP ps qs) {i n : Nat} (hn : n ∈ rowOf ps i) : n ∈ rowOf qs i := by
  obtain ⟨p, hp, r⟩ := mem_row.mp hn
  exact mem_row.mpr ⟨p, h p hp, r⟩
theorem clash_sub {ps qs : PS} (h : SubP ps qs) {i j : Nat} (hc : clash ps i j = true) : clash qs i j = true := by
  unfold clash adj touch at *
  rw [Bool.and_eq_true, Bool.or_eq_true, decide_eq_true_eq, List.any_eq_true] at *
  obtain ⟨h1, h2⟩ := hc
  refine ⟨h1, h2.imp (row_sub h) ?_⟩
  rintro ⟨x, hx, hy⟩
  exact ⟨x, row_sub h hx, decide_eq_true (row_sub h (of_decide_eq_true hy))⟩
theorem rch_sub {ps qs : PS} {al : List Nat} (h : SubP ps qs) : ∀ {k p : Nat}, rch ps al k p = true → rch qs al k p = true
  | 0, p, h1 => h1
  | k + 1, p, h1 => by
    obtain ⟨h2, q, h3, h4⟩ := rch_succ.mp h1
    exact rch_succ.mpr ⟨h2, q, row_sub h h3, rch_sub h h4⟩
theorem far_sub {ps qs : PS} {al : List Nat} {m p : Nat} (h0 : 0 < m) (ha : ∀ p ∈ al, p < m) (h : SubP ps qs) : (far m ps al p = none ∨ ∃ k j, far m ps al p = some k ∧ far m qs al p = some j ∧ j ≤ k) := by
  cases h1 : far m ps al p with
  | none => exact .inl rfl
  | some k =>
    have h2 := ((far_some h0 ha).mp h1).1
    have h3 := rch_sub h h2
    cases h4 : far m qs al p with
    | none =>
      rw [(far_none h0 ha).mp h4 k] at h3
      cases h3
    | some j =>
      refine .inr ⟨k, j, rfl, rfl, Nat.le_of_not_lt fun lt => ?_⟩
      rw [((far_some h0 ha).mp h4).2 k lt] at h3
      cases h3
end Wm
end
section
set_option Elab.async false
set_option linter.all false
set_option maxRecDepth 100000
set_option maxHeartbeats 4000000
namespace Lf
open PySem PySem.Spec PyProof.Rows L2
open Evl
def flat (ys : Nat → List V) (n : Nat) : List V := (List.range n).flatMap ys
theorem flat_succ (ys : Nat → List V) (n : Nat) : flat ys (n + 1) = flat ys n ++ ys n := by
  unfold flat
  rw [List.range_succ, List.flatMap_append, List.flatMap_singleton]
theorem flat_le (ys : Nat → List V) {c : Nat} (h : ∀ i, (ys i).length ≤ c) : ∀ n, (flat ys n).length ≤ n * c
  | 0 => Nat.zero_le _
  | n + 1 => by
    have h1 := flat_le ys h n
    have h2 := h n
    rw [flat_succ, List.length_append, Nat.succ_mul]
    omega
section
variable {K : PySem.W.Frag} {σ : L2.St} {H : Hp} {te : TE}
theorem el_lc2 {a : Addr} {xs : List V} {tl tl1 : TE} {j j1 c : Nat} {vs vs1 : List Nat} (ys : Nat → List V) (h : Ev tl σ H (.ref a)) (hx : SqL K H a xs) (hc : ∀ i, (ys i).length ≤ c) (hz : (xs.length + 1) * c ≤ 40000)
    (hw : ∀ x, wipe ((wipe σ vs).set j (some x)) vs = wipe σ vs) (hw1 : ∀ x y, wipe ((wipe ((wipe σ vs).set j (some x)) vs1).set j1 (some y)) vs1 = wipe ((wipe σ vs).set j (some x)) vs1)
    (h1 : ∀ (i : Nat) (x : V) H1, Ex H H1 → xs[i]? = some x → EvL tl1 ((wipe σ vs).set j (some x)) H1 (ys i))
    (he : ∀ (i : Nat) (x y : V) H1, Ex H H1 → xs[i]? = some x → y ∈ ys i → Ev te ((wipe ((wipe σ vs).set j (some x)) vs1).set j1 (some y)) H1 y) :
    EvL (tLc2 (iList K tl) (gName j) tYes (iList K tl1) (gName j1) tYes te vs vs1) σ H (flat ys xs.length) := by
  intro H0 e Q q
  refine h H0 e _ fun H1 e1 => ⟨a, rfl, ⟨xs, ex_l (e.trans e1) hx⟩, fun D hD => ?_⟩
  refine ⟨fun i m H' => m = xs.length - i ∧ i ≤ xs.length ∧ Ex H1 H' ∧ H' D = some (.lst (flat ys i)), ⟨xs.length, by simp, Nat.zero_le _, Ex.new hD, upd_same⟩, ?_⟩
  rintro i m H' ⟨rfl, hi, p2, p3⟩
  have sx : SqL K H' a xs := ex_l ((e.trans e1).trans p2) hx
  by_cases hlt : i < xs.length
  · refine .inr ⟨⟨xs, xs[i], sx, by simp [hlt]⟩, fun H'' => Ex H1 H'' ∧ H'' D = some (.lst (flat ys (i + 1))), fun H'' p' => ⟨xs.length - (i + 1), by omega, rfl, hlt, p'⟩, fun x Hy y => ?_⟩
    obtain ⟨e2, y⟩ := y
    subst e2
    have hxi := y xs sx
    refine ⟨hw x, yes_ok _ (Ex.refl _) _ fun H3 e3 => ?_⟩
    rw [if_pos rfl]
    refine h1 i x H3 (((e.trans e1).trans p2).trans e3) hxi H3 (Ex.refl _) _ fun L H4 l0 e4 hl => ⟨L, rfl, ⟨_, sq_of hl⟩, ?_⟩
    have nDL : D ≠ L := fun z => by rw [← z, e3 _ _ p3] at l0; cases l0
    refine ⟨fun j' k H'' => k = (ys i).length - j' ∧ j' ≤ (ys i).length ∧ Ex H1 H'' ∧ H'' D = some (.lst (flat ys i ++ (ys i).take j')) ∧ H'' L = some (.lst (ys i)), ⟨(ys i).length, by simp, Nat.zero_le _, (p2.trans e3).trans e4, ?_, hl⟩, ?_⟩
    · rw [List.take_zero, List.append_nil]
      exact e4 _ _ (e3 _ _ p3)
    · rintro j' k H'' ⟨rfl, hj, q1, q2, q3⟩
      by_cases hlj : j' < (ys i).length
      · refine .inr ⟨⟨_, (ys i)[j'], sq_of q3, by simp [hlj]⟩, fun H5 => Ex H1 H5 ∧ H5 D = some (.lst (flat ys i ++ (ys i).take (j' + 1))) ∧ H5 L = some (.lst (ys i)), fun H5 p' => ⟨(ys i).length - (j' + 1), by omega, rfl, hlj, p'⟩, fun z Hz w => ?_⟩
        obtain ⟨e5, w⟩ := w
        subst e5
        have hz1 := w _ (sq_of q3)
        refine ⟨hw1 x z, yes_ok _ (Ex.refl _) _ fun H6 e6 => ?_⟩
        rw [if_pos rfl]
        refine he i x z H6 (((e.trans e1).trans q1).trans e6) hxi (List.mem_of_getElem? hz1) H6 (Ex.refl _) _ fun H7 e7 => ⟨_, e7 _ _ (e6 _ _ q2), ?_, Ex.mut ((q1.trans e6).trans e7) hD, ?_, ?_⟩
        · have l1 := flat_le ys hc i
          have l2 := hc i
          have l3 : i * c ≤ xs.length * c := Nat.mul_le_mul_right c hi
          rw [Nat.succ_mul] at hz
          refine sz_lt ?_
          rw [List.length_append, List.length_take]
          omega
        · rw [upd_same, List.append_assoc, List.take_add_one, hz1]
          rfl
        · rw [upd_ne nDL.symm]
          exact e7 _ _ (e6 _ _ q3)
      · have ej : j' = (ys i).length := by omega
        subst ej
        refine .inl ⟨⟨_, sq_of q3, Nat.le_refl _⟩, q1, ?_⟩
        rw [q2, List.take_length, flat_succ]
  · have ei : i = xs.length := by omega
    subst ei
    exact .inl ⟨⟨xs, sx, Nat.le_refl _⟩, q D _ (fresh_back e1 hD) (e1.trans p2) p3⟩
theorem et_tr {p : Addr} {xs : List V} (h : Ev te σ H (.ref p)) (hx : ∀ H1, Ex H H1 → SqL K H1 p xs) : EvT (tTr K te) σ H (!xs.isEmpty) := fun H1 e Q q => h H1 e _ fun H2 e2 => ⟨!xs.isEmpty, .inl ⟨xs, hx H2 (e.trans e2), rfl⟩, q H2 e2⟩
theorem flat_rep {v : V} : ∀ n : Nat, (List.replicate n [v]).flatten = List.replicate n v
  | 0 => rfl
  | n + 1 => by
    rw [List.replicate_succ, List.replicate_succ, List.flatten_cons, flat_rep n]
    rfl
theorem el_rep {tn : TE} {v : V} {n : Nat} (h : Ev te σ H v) (hn : Ev tn σ H (.int (n : Int))) (hz : n ≤ 40000) : EvL (tOp rRep (tLst (tCons te tNil)) tn) σ H (List.replicate n v) := fun H1 e Q q =>
  h H1 e _ fun H2 e2 => ⟨by show 1 ≤ sizeLine; decide, fun p hp => hn _ ((e.trans e2).trans (Ex.new hp)) _ fun H3 e3 => ⟨p, (n : Int), [v], rfl, rfl, e3 _ _ upd_same, by omega, by omega, by
    rw [Int.toNat_natCast]
    have : 40000 ≤ sizeLine := by decide
    show 1 * n ≤ sizeLine
    omega, fun p2 hp2 => q p2 _ (fresh_back e2 (fresh_back (Ex.new hp) (fresh_back e3 hp2))) (((e2.trans (Ex.new hp)).trans e3).trans (Ex.new hp2)) (by
    rw [upd_same, Int.toNat_natCast]
    rw [flat_rep])⟩⟩
end
end Lf
namespace Wm
open PySem PySem.Spec PyProof.Rows L2 Lf
open Evl
def oV : Option Nat → V
  | none => .non
  | some k => .int (k : Int)
def oD : Option Nat → PyData
  | none => .none
  | some k => .int (k : Int)
theorem oV_non (o : Option Nat) : decide (oV o = .non) = o.isNone := by
  cases o <;> rfl
def toldV (m : Nat) (ps : PS) (al : List Nat) (s : Nat) : List V := (List.range m).map fun x => oV (dist ps al s x)
def midV (m : Nat) (ps : PS) (al : List Nat) (s i : Nat) : List V := (List.range m).map fun x => oV (if x ∈ (edgeAt ps al s).take i then some s else dist ps al s x)
def farV (m : Nat) (ps : PS) (al : List Nat) : List V := (List.range m).map fun x => oV (far m ps al x)
section
variable {m : Nat} {ps : PS} {al : List Nat} {s : Nat}
theorem told_len : (toldV m ps al s).length = m := by
  unfold toldV
  rw [List.length_map, List.length_range]
theorem mid_len {i : Nat} : (midV m ps al s i).length = m := by
  unfold midV
  rw [List.length_map, List.length_range]
theorem far_len : (farV m ps al).length = m := by
  unfold farV
  rw [List.length_map, List.length_range]
theorem far_get {x : Nat} (h : x < m) : (farV m ps al)[x]? = some (oV (far m ps al x)) := by
  unfold farV
  rw [List.getElem?_map, List.getElem?_range h]
  rfl
theorem told_get {x : Nat} (h : x < m) : (toldV m ps al s)[x]? = some (oV (dist ps al s x)) := by
  unfold toldV
  rw [List.getElem?_map, List.getElem?_range h]
  rfl
theorem told_zero : toldV m ps al 0 = List.replicate m V.non := by
  unfold toldV
  refine List.ext_getElem? fun i => ?_
  by_cases h : i < m
  · rw [List.getElem?_map, List.getElem?_range h, List.getElem?_replicate, if_pos h]
    rfl
  · rw [List.getElem?_eq_none (by rw [List.length_map, List.length_range]; omega), List.getElem?_eq_none (by rw [List.length_replicate]; omega)]
theorem mid_zero : midV m ps al s 0 = toldV m ps al s := by
  unfold midV toldV
  refine List.map_congr_left fun x _ => ?_
  rw [List.take_zero, if_neg (fun h => nomatch h)]
theorem mid_all : midV m ps al s (edgeAt ps al s).length = toldV m ps al (s + 1) := by
  unfold midV toldV
  refine List.map_congr_left fun x _ => ?_
  rw [List.take_length, dist_succ]
theorem mid_step {i n : Nat} (hi : (edgeAt ps al s)[i]? = some n) (hn : n < m) : (midV m ps al s i).set n (.int (s : Int)) = midV m ps al s (i + 1) := by
  unfold midV
  rw [set_range _ _ _ _ hn]
  refine List.map_congr_left fun x _ => ?_
  rw [List.take_add_one, hi]
  by_cases e : n = x
  · subst e
    rw [if_pos rfl, if_pos (List.mem_append_right _ (by exact List.mem_singleton.mpr rfl))]
    rfl
  · rw [if_neg e]
    congr 1
    by_cases h : x ∈ (edgeAt ps al s).take i
    · rw [if_pos h, if_pos (List.mem_append_left _ h)]
    · rw [if_neg h, if_neg]
      intro h2
      rcases List.mem_append.mp h2 with h2 | h2
      · exact h h2
      · exact e (List.mem_singleton.mp h2).symm
theorem told_end (h : edgeAt ps al s = []) (hs : s ≤ m) : toldV m ps al s = farV m ps al := by
  unfold toldV farV
  refine List.map_congr_left fun x _ => ?_
  unfold far
  rw [stop_same h hs]
end
end Wm
namespace Wm
open PySem PySem.Spec PyProof.Rows L2 Lf
open Evl
def risesN (cs : List Nat) : Bool := ((List.range (cs.length - 1)).map fun i => decide (cs.getD i 0 < cs.getD (i + 1) 0)).all id
def cutHolds (ps : PS) (al cs : List Nat) : Bool := !((cs.any fun x => decide (x = 0) || !decide (x ∈ al)) || !risesN cs) && (cs.flatMap (rowOf ps)).all fun n => decide (n ∈ cs) || !decide (n ∈ al)
theorem flat_rows (ps : PS) (cs : List Nat) : flat (fun i => vN (rowOf ps (cs.getD i 0))) cs.length = vN (cs.flatMap (rowOf ps)) := by
  unfold flat vN
  rw [List.map_flatMap]
  have e : cs = (List.range cs.length).map fun i => cs.getD i 0 := by
    refine List.ext_getElem? fun i => ?_
    by_cases q : i < cs.length
    · rw [List.getElem?_map, List.getElem?_range q, List.getElem?_eq_getElem q]
      show _ = some (cs.getD i 0)
      rw [List.getD_eq_getElem?_getD, List.getElem?_eq_getElem q]
      rfl
    · rw [List.getElem?_eq_none (by omega), List.getElem?_eq_none (by rw [List.length_map, List.length_range]; omega)]
  conv => rhs; rw [e]
  rw [List.flatMap_map]
theorem all_getD {b : List Nat} (f : Nat → Bool) : b.all f = (List.range b.length).all fun j => f (b.getD j 0) := by
  have h := any_getD (b := b) fun x => !f x
  rw [List.all_eq_not_any_not, h, List.all_eq_not_any_not]
theorem rises_of {cs : List Nat} (h : cs.Pairwise (· < ·)) : risesN cs = true := by
  unfold risesN
  rw [List.all_map, List.all_eq_true]
  intro i hi
  have hi := List.mem_range.mp hi
  have h1 : i < cs.length := by omega
  have h2 : i + 1 < cs.length := by omega
  show decide (cs.getD i 0 < cs.getD (i + 1) 0) = true
  rw [List.getD_eq_getElem?_getD, List.getD_eq_getElem?_getD, List.getElem?_eq_getElem h1, List.getElem?_eq_getElem h2]
  exact decide_eq_true (List.pairwise_iff_getElem.mp h i (i + 1) h1 h2 (Nat.lt_succ_self i))
end Wm
end
section
set_option Elab.async false
set_option linter.all false
set_option maxRecDepth 100000
set_option maxHeartbeats 4000000
namespace Lf
open PySem PySem.Spec PyProof.Rows L2
open Evl
section
variable {K : PySem.W.Frag} {σ : L2.St} {H H' : Hp} {ta tb te tx : TE} {x y z v : V}
/-! arguments, some of which are new lists -/
def EvF (ta : TA) (σ : L2.St) (H : Hp) (P : List V → Hp → Prop) : Prop := ∀ H1, Ex H H1 → ∀ Q : List V → Hp → Prop, (∀ vs H2, Ex H1 H2 → P vs H2 → Q vs H2) → ta σ H1 Q
theorem ef_nil : EvF tNil σ H (fun vs _ => vs = []) := fun H1 e Q q => q [] H1 (Ex.refl H1) rfl
theorem ef_cons {tr : TA} {P : List V → Hp → Prop} (h : Ev te σ H x) (hr : EvF tr σ H P) : EvF (tCons te tr) σ H (fun vs H2 => ∃ us, vs = x :: us ∧ P us H2) := fun H1 e Q q =>
  h H1 e _ fun H2 e2 => hr H2 (e.trans e2) _ fun us H3 e3 p => q _ H3 (e2.trans e3) ⟨us, rfl, p⟩
theorem ef_consL {tr : TA} {xs : List V} {P : List V → Hp → Prop} (h : EvL te σ H xs) (hr : EvF tr σ H P) : EvF (tCons te tr) σ H (fun vs H2 => ∃ p us, vs = .ref p :: us ∧ H p = none ∧ H2 p = some (.lst xs) ∧ P us H2) := fun H1 e Q q =>
  h H1 e _ fun p H2 p0 e2 hp => hr H2 (e.trans e2) _ fun us H3 e3 pp => q _ H3 (e2.trans e3) ⟨p, us, rfl, fresh_back e p0, e3 _ _ hp, pp⟩
theorem ef_all {ta : TA} {vs : List V} (h : EvA ta σ H vs) : EvF ta σ H (fun us _ => us = vs) := fun H1 e Q q => h H1 e _ fun H2 e2 => q _ H2 e2 rfl
theorem ev_clF {sp : Sp} {P : List V → Hp → Prop} {E : XK} {ta : TA} (h : EvF ta σ H P) (hs : ∀ vs H1, Ex H H1 → P vs H1 → SV sp vs H1 z) : Ev (tCl sp E ta) σ H z := fun H1 e Q q =>
  h H1 e _ fun vs H2 e2 p => hs vs H2 (e.trans e2) p H2 (Ex.refl H2) Q (fun H3 e3 => q H3 (e2.trans e3)) E
theorem el_clF {sp : Sp} {P : List V → Hp → Prop} {xs : List V} {E : XK} {ta : TA} (h : EvF ta σ H P) (hs : ∀ vs H1, Ex H H1 → P vs H1 → SL sp vs H1 xs) : EvL (tCl sp E ta) σ H xs := fun H1 e Q q =>
  h H1 e _ fun vs H2 e2 p => hs vs H2 (e.trans e2) p H2 (Ex.refl H2) Q (fun r H3 hr e3 h3 => q r H3 (fresh_back e2 hr) (e2.trans e3) h3) E
theorem ev_mtF {C a dx : Addr} {m : Str} {fs : List (Str × V)} {sp : Sp} {P : List V → Hp → Prop} {E : XK} {tr : TA} (ho : Ev ta σ H (.ref a)) (hi : H a = some (.ins C dx fs)) (hm : fs.lookup m = none) (h : EvF tr σ H P) (hs : ∀ vs H1, Ex H H1 → P vs H1 → SV sp (.ref a :: vs) H1 z) : Ev (tMt C m sp E ta tr) σ H z := fun H1 e Q q =>
  ho H1 e _ fun H2 e2 => ⟨a, dx, fs, rfl, e2 _ _ (e _ _ hi), hm, h H2 (e.trans e2) _ fun vs H3 e3 p => hs vs H3 ((e.trans e2).trans e3) p H3 (Ex.refl H3) Q (fun H4 e4 => q H4 ((e2.trans e3).trans e4)) E⟩
theorem el_mtF {C a dx : Addr} {m : Str} {fs : List (Str × V)} {sp : Sp} {P : List V → Hp → Prop} {xs : List V} {E : XK} {tr : TA} (ho : Ev ta σ H (.ref a)) (hi : H a = some (.ins C dx fs)) (hm : fs.lookup m = none) (h : EvF tr σ H P) (hs : ∀ vs H1, Ex H H1 → P vs H1 → SL sp (.ref a :: vs) H1 xs) : EvL (tMt C m sp E ta tr) σ H xs := fun H1 e Q q =>
  ho H1 e _ fun H2 e2 => ⟨a, dx, fs, rfl, e2 _ _ (e _ _ hi), hm, h H2 (e.trans e2) _ fun vs H3 e3 p => hs vs H3 ((e.trans e2).trans e3) p H3 (Ex.refl H3) Q (fun r H4 hr e4 h4 => q r H4 (fresh_back e2 (fresh_back e3 hr)) ((e2.trans e3).trans e4) h4) E⟩
/-- list + list, both new -/
theorem el_cat {xs ys : List V} (h1 : EvL ta σ H xs) (h2 : EvL tb σ H ys) (hz : xs.length + ys.length ≤ sizeLine) : EvL (tOp rCat ta tb) σ H (xs ++ ys) := fun H1 e Q q =>
  h1 H1 e _ fun p H2 p0 e2 hp => h2 H2 (e.trans e2) _ fun r H3 r0 e3 hr => ⟨p, r, xs, ys, rfl, rfl, e3 _ _ hp, hr, hz, fun t ht => q t _ (fresh_back e2 (fresh_back e3 ht)) ((e2.trans e3).trans (Ex.new ht)) upd_same⟩
theorem ev_neLL {xs ys : List V} {d e : PyData} (h1 : EvL ta σ H xs) (h2 : EvL tb σ H ys) (hd : ∀ p H1, Ex H H1 → H1 p = some (.lst xs) → Dp K H1 (.ref p) d) (he : ∀ p H1, Ex H H1 → H1 p = some (.lst ys) → Dp K H1 (.ref p) e) (s1 : SeqAt.shaped d = true) (s2 : SeqAt.shaped e = true) : Ev (tOp (rNeD K) ta tb) σ H (.bl (!PyData.eqv d e)) :=
  ev_opLL h1 h2 fun p r H1 hp hr e1 => rv_val fun H2 e2 Q k => ⟨d, e, dp_ex e2 _ _ (hd p H1 e1 hp), dp_ex e2 _ _ (he r H1 e1 hr), s1, s2, k⟩
end
end Lf
namespace Wm
open PySem PySem.Spec PyProof.Rows L2 Lf
open Evl
theorem slots_hold_sub {m : Nat} {ps qs : PS} (hs : SubP qs ps) : slotsHold m qs ((slotsUpto ps m).map fun n : Nat => (n : Int)) = true := by
  have ok := slots_hold_ok (m := m) ps
  unfold slotsHold at *
  rw [Bool.and_eq_true, Bool.and_eq_true] at *
  refine ⟨ok.1, ok.2.1, ?_⟩
  have h := ok.2.2
  rw [List.all_eq_true] at *
  intro pl hpl
  have h1 := h pl hpl
  rw [Bool.not_eq_true', List.any_eq_false] at *
  intro l hl h2
  refine h1 l hl ?_
  rw [Bool.and_eq_true] at *
  exact ⟨h2.1, clash_sub hs h2.2⟩
def cutOf (m : Nat) (ps : PS) (al : List Nat) : List Nat := al.filter fun x => (far m ps al x).isNone
theorem cut_ok {m : Nat} {ps qs : PS} {al : List Nat} (m0 : 0 < m) (hal : ∀ x ∈ al, x < m) (hp : al.Pairwise (· < ·)) (hs : SubP qs ps) : cutHolds qs al (cutOf m ps al) = true := by
  unfold cutHolds
  have h1 : ((cutOf m ps al).any fun x => decide (x = 0) || !decide (x ∈ al)) = false := by
    rw [List.any_eq_false]
    intro x hx
    obtain ⟨h1, h2⟩ := List.mem_filter.mp hx
    have n0 : x ≠ 0 := by
      rintro rfl
      have := (far_none m0 hal).mp (Option.isNone_iff_eq_none.mp h2) 0
      cases this
    rw [decide_eq_false n0, decide_eq_true h1]
    decide
  have h2 : risesN (cutOf m ps al) = true := rises_of (hp.filter _)
  have h3 : (((cutOf m ps al).flatMap (rowOf qs)).all fun n => decide (n ∈ cutOf m ps al) || !decide (n ∈ al)) = true := by
    rw [List.all_eq_true]
    intro n hn
    obtain ⟨x, hx, hr⟩ := List.mem_flatMap.mp hn
    obtain ⟨h1, h2⟩ := List.mem_filter.mp hx
    by_cases hna : n ∈ al
    · have : n ∈ cutOf m ps al := by
        refine List.mem_filter.mpr ⟨hna, ?_⟩
        rw [Option.isNone_iff_eq_none, far_none m0 hal]
        intro k
        have h4 := (far_none m0 hal).mp (Option.isNone_iff_eq_none.mp h2) (k + 1)
        cases h5 : rch ps al k n with
        | false => rfl
        | true =>
          rw [rch_succ.mpr ⟨h1, n, row_sub hs hr, h5⟩] at h4
          cases h4
      rw [decide_eq_true this]
      rfl
    · rw [decide_eq_false hna]
      exact Bool.or_true _
  rw [h1, h2, h3]
  rfl
theorem cut_sub {m : Nat} {ps qs : PS} {al : List Nat} (m0 : 0 < m) (hal : ∀ x ∈ al, x < m) (hs : SubP qs ps) {x : Nat} (h : x ∈ cutOf m ps al) : x ∈ cutOf m qs al := by
  obtain ⟨h1, h2⟩ := List.mem_filter.mp h
  refine List.mem_filter.mpr ⟨h1, ?_⟩
  rw [Option.isNone_iff_eq_none] at *
  rcases far_sub (p := x) m0 hal hs with e | ⟨k, j, _, e, _⟩
  · exact e
  · rw [h2] at e
    cases e
/-! no pairs -/
theorem row_nil (i : Nat) : rowOf [] i = [] := rfl
theorem far_nil {m x : Nat} {al : List Nat} (m0 : 0 < m) (hal : ∀ x ∈ al, x < m) : far m [] al x = if x = 0 then some 0 else none := by
  by_cases e : x = 0
  · rw [if_pos e, far_some m0 hal]
    exact ⟨decide_eq_true e, fun j h => absurd h (Nat.not_lt_zero _)⟩
  · rw [if_neg e, far_none m0 hal]
    intro k
    cases k with
    | zero => exact decide_eq_false e
    | succ k =>
      cases h : rch [] al (k + 1) x with
      | false => rfl
      | true =>
        obtain ⟨_, q, h2, _⟩ := rch_succ.mp h
        cases h2
theorem clash_nil (i j : Nat) : clash [] i j = false := by
  unfold clash adj touch
  rw [row_nil]
  simp
theorem slots_nil : ∀ n, slotsUpto [] n = List.replicate n 0
  | 0 => rfl
  | n + 1 => by
    have h : lesser [] n = [] := by
      unfold lesser
      have : ((List.range n).filter fun l => clash [] l n) = [] := List.filter_eq_nil_iff.mpr fun l _ => by
        rw [clash_nil]
        decide
      rw [this]
      rfl
    rw [List.replicate_succ', ← slots_nil n]
    show slotsUpto [] n ++ [least (lesser [] n)] = _
    rw [h]
    rfl
def dFar (m : Nat) (ps : PS) (al : List Nat) : PyData := .list ((List.range m).map fun x => oD (far m ps al x))
theorem oV_dp {K : PySem.W.Frag} {H : Hp} (o : Option Nat) : Dp K H (oV o) (oD o) := by
  cases o with
  | none => exact .non
  | some k => exact .int _
theorem far_dps {K : PySem.W.Frag} {H : Hp} (m : Nat) (ps : PS) (al : List Nat) : DpAll K H (farV m ps al) ((List.range m).map fun x => oD (far m ps al x)) := by
  refine dps_of (by rw [far_len, List.length_map, List.length_range]) fun i v d hv hd => ?_
  by_cases h : i < m
  · rw [far_get h] at hv
    rw [List.getElem?_map, List.getElem?_range h] at hd
    cases hv
    cases hd
    exact oV_dp _
  · rw [List.getElem?_eq_none (by rw [far_len]; omega)] at hv
    cases hv
theorem rep_far {m : Nat} {ps : PS} {al : List Nat} (h : m ≤ 1000) : Rep 1 100000 (dFar m ps al) := by
  have := Rep.list (n := 0) (w := 40) (ds := (List.range m).map fun x => oD (far m ps al x)) (fun d hd => by
    obtain ⟨x, hx, rfl⟩ := List.mem_map.mp hd
    cases q : far m ps al x with
    | none => exact Rep.non.mono (Nat.le_refl _) (by decide)
    | some k =>
      have := (dist_some.mp q).1
      exact Rep.int (by show k < _; omega))
  rw [List.length_map, List.length_range] at this
  exact this.mono (Nat.le_refl _) (by omega)
end Wm
namespace Wm
open PySem PySem.Spec PyProof.Rows L2 Lf
theorem flat2 (o u : Option Nat) : [oV o, oV u].all flatV = true := by
  cases o <;> cases u <;> rfl
theorem inv_non1 (u : Option Nat) : (V.bl (!inV .non [V.non, oV u])) = V.bl false := by
  cases u <;> rfl
end Wm
namespace Lf
open PySem PySem.Spec PyProof.Rows L2
open Evl
theorem tany_gt {b : Addr × Addr} {σ : L2.St} {H : Hp} {many : Int} {i : Nat} (hb : Bag H b) (hi : σ[i]? = some (some (.ref b.1))) (hm : 0 < many ∧ many < 1073741824) :
    TAny (Step b) (tTest (tOp (rI0 fun i j => .bl (decide (j < i))) (tCl spTake E0 (tCons (tVar i) (tCons (tC (.int many)) tNil))) (tC (.int 0)))) σ H := fun Q q =>
  ⟨_, hi, b, many, rfl, hb, hm, fun v H' _ _ bg s => ⟨v, 0, rfl, rfl, _, rfl, q _ _ (.draw bg s)⟩⟩
end Lf
namespace Wm
open PySem PySem.Spec PyProof.Rows L2 Lf
open Evl
theorem eqv_dP (p q : Nat × Nat) : PyData.eqv (dP p) (dP q) = decide (p = q) := by
  obtain ⟨a, b⟩ := p
  obtain ⟨c, d⟩ := q
  unfold dP
  rw [Bool.eq_iff_iff, decide_eq_true_eq]
  simp only [PyData.eqv, PyData.eqvAll, Bool.and_eq_true, decide_eq_true_eq, beq_iff_eq, Prod.mk.injEq, Bool.and_true]
  omega
theorem Good.sub {m : Nat} {ps qs : PS} (g : Good m ps) (h : qs.Sublist ps) : Good m qs := ⟨g.m2, g.m10, fun p hp => g.lt p (h.subset hp), g.pw.sublist h, Nat.le_trans h.length_le g.few⟩
def pick (ps : PS) (f : Nat → Bool) : PS := ((List.range ps.length).filter f).map fun j => ps.getD j (0, 0)
theorem pick_sub (ps : PS) (f : Nat → Bool) : (pick ps f).Sublist ps := by
  have e : ps = (List.range ps.length).map fun j => ps.getD j (0, 0) := by
    refine List.ext_getElem? fun i => ?_
    by_cases q : i < ps.length
    · rw [List.getElem?_map, List.getElem?_range q, List.getElem?_eq_getElem q]
      show _ = some (ps.getD i (0, 0))
      rw [List.getD_eq_getElem?_getD, List.getElem?_eq_getElem q]
      rfl
    · rw [List.getElem?_eq_none (by omega), List.getElem?_eq_none (by rw [List.length_map, List.length_range]; omega)]
  have h : (pick ps f).Sublist ((List.range ps.length).map fun j => ps.getD j (0, 0)) := List.filter_sublist.map _
  rw [← e] at h
  exact h
theorem PairsIn.pick {H : Hp} {ws : List V} {ps : PS} (h : PairsIn H ws ps) (f : Nat → Bool) : PairsIn H (given ws.length f fun j => ws.getD j .non) (Wm.pick ps f) := by
  unfold given Wm.pick
  rw [h.1]
  refine ⟨by rw [List.length_map, List.length_map], fun i p hp => ?_⟩
  rw [List.getElem?_map] at hp ⊢
  cases q : ((List.range ps.length).filter f)[i]? with
  | none =>
    rw [q] at hp
    cases hp
  | some j =>
    rw [q] at hp
    have hj : j < ps.length := List.mem_range.mp (List.mem_filter.mp (List.mem_of_getElem? q)).1
    have hp : ps.getD j (0, 0) = p := Option.some.inj hp
    rw [List.getD_eq_getElem?_getD, List.getElem?_eq_getElem hj] at hp
    obtain ⟨t, h1, h2⟩ := h.2 j p (by rw [List.getElem?_eq_getElem hj]; exact congrArg some hp)
    refine ⟨t, ?_, h2⟩
    show some (ws.getD j .non) = _
    rw [List.getD_eq_getElem?_getD, h1]
    rfl
theorem PairsIn.erase {H : Hp} {ws : List V} {ps : PS} (h : PairsIn H ws ps) (k : Nat) : PairsIn H (ws.eraseIdx k) (ps.eraseIdx k) := by
  refine ⟨by rw [List.length_eraseIdx, List.length_eraseIdx, h.1], fun i p hp => ?_⟩
  rw [List.getElem?_eraseIdx] at hp ⊢
  split
  · rename_i lt
    rw [if_pos lt] at hp
    exact h.2 i p hp
  · rename_i lt
    rw [if_neg lt] at hp
    exact h.2 (i + 1) p hp
theorem WebNew.base {C : Addr} {H0 H1 H : Hp} {x : Addr} {m : Nat} {ps : PS} (h : WebNew C H1 H x m ps) (e : Ex H0 H1) : WebNew C H0 H x m ps := by
  obtain ⟨g, dx, a1, a2, ws1, ws2, h1, h2, h3, h4, h5, f0, f1, f2, fr⟩ := h
  exact ⟨g, dx, a1, a2, ws1, ws2, h1, h2, h3, h4, h5, fresh_back e f0, fresh_back e f1, fresh_back e f2, fun i t hi => fresh_back e (fr i t hi)⟩
theorem vN_zeros (m : Nat) : vN (slotsUpto [] m) = List.replicate m (V.int 0) := by
  unfold vN
  rw [slots_nil, List.map_replicate]
  rfl
theorem far_empty {m : Nat} {al : List Nat} (m0 : 0 < m) (hal : ∀ x ∈ al, x < m) : farV m [] al = [V.int 0] ++ List.replicate (m - 1) V.non := by
  unfold farV
  refine List.ext_getElem? fun i => ?_
  by_cases h : i < m
  · rw [List.getElem?_map, List.getElem?_range h]
    show some (oV (far m [] al i)) = _
    rw [far_nil m0 hal]
    cases i with
    | zero => rfl
    | succ i =>
      rw [if_neg (Nat.succ_ne_zero i)]
      show some V.non = (List.replicate (m - 1) V.non)[i]?
      rw [List.getElem?_replicate, if_pos (by omega)]
  · rw [List.getElem?_eq_none (by rw [List.length_map, List.length_range]; omega), List.getElem?_eq_none (by rw [List.length_append, List.length_replicate, List.length_singleton]; omega)]
end Wm
namespace Lf
open PySem PySem.Spec PyProof.Rows L2
open Evl
section
variable {K : PySem.W.Frag} {σ : L2.St} {H : Hp} {ta : TA} {te : TE} {x : V} {D : Ends} {tz : TS}
theorem ef_consF {tr : TA} {P R : List V → Hp → Prop} (h : EvF ta σ H P) (hz : ∀ vs H2, P vs H2 → vs.length ≤ 1000) (hr : EvF tr σ H R) : EvF (tCons (tLst ta) tr) σ H (fun vs H2 => ∃ p us xs H1, vs = .ref p :: us ∧ Ex H H1 ∧ P xs H1 ∧ Ex H1 H2 ∧ H2 p = some (.lst xs) ∧ R us H2) := fun H1 e Q q =>
  h H1 e _ fun xs H2 e2 p => ⟨Nat.le_trans (hz xs H2 p) (by decide), fun r hr0 => hr _ ((e.trans e2).trans (Ex.new hr0)) _ fun us H3 e3 pr => q _ H3 ((e2.trans (Ex.new hr0)).trans e3) ⟨r, us, xs, H2, rfl, e.trans e2, p, (Ex.new hr0).trans e3, e3 _ _ upd_same, pr⟩⟩
theorem q_asgF {i : Nat} {P : List V → Hp → Prop} (h : EvF ta σ H P) (hz : ∀ vs H2, P vs H2 → vs.length ≤ 1000) (k : ∀ p vs H2, Ex H H2 → P vs H2 → H2 p = none → tz D (σ.set i (some (.ref p))) (upd H2 p (.lst vs))) : tSeq (tAsg (tLst ta) (gName i)) tz D σ H :=
  h H (Ex.refl H) _ fun vs H2 e2 p => ⟨Nat.le_trans (hz vs H2 p) (by decide), fun r hr => k r vs H2 e2 p hr⟩
end
end Lf
namespace Lf
open PySem PySem.Spec PyProof.Rows L2 Wm
open Evl
section
variable {K : PySem.W.Frag} {σ : L2.St} {H : Hp} {ta tb : TE} {tl : TA}
theorem ef_mono {P R : List V → Hp → Prop} (h : EvF tl σ H P) (hp : ∀ vs H1, Ex H H1 → P vs H1 → R vs H1) : EvF tl σ H R := fun H1 e Q q => h H1 e _ fun vs H2 e2 p => q vs H2 e2 (hp vs H2 (e.trans e2) p)
theorem ev_neS {xs : List V} {ds : List PyData} {n w : Nat} (h1 : EvL ta σ H xs) (h2 : EvL tb σ H xs) (hd : ∀ H1, Ex H H1 → DpAll K H1 xs ds) (r : Rep n w (.list ds)) (hn : n ≤ 64) : Ev (tOp (rNeD K) ta tb) σ H (.bl false) := by
  have h := ev_neLL (K := K) (d := .list ds) (e := .list ds) h1 h2 (fun p H1 e hp => .lst (sq_of hp) (hd H1 e)) (fun p H1 e hp => .lst (sq_of hp) (hd H1 e)) (r.sh.shaped hn) (r.sh.shaped hn)
  rw [r.eqv] at h
  exact h
end
end Lf
namespace Wm
open PySem PySem.Spec PyProof.Rows L2 Lf
open Evl
theorem M2.up {b : Addr × Addr} {q : Addr} {H H' : Hp} (s : Step b H H') (hq : H q = none) : Ex (mask b.1 H) (M2 b q H') := fun c o h => by
  have n : c ≠ q := by
    rintro rfl
    have h1 := mask_le _ _ _ _ h
    rw [hq] at h1
    cases h1
  exact (mask_at n).trans (s.2 _ _ h)
theorem seq_nat {j n : Nat} (h : j < n) : seqIndex? (j : Int) n = some j := by
  have := PySem.StrLaws.seqIndex_nonneg (i := (j : Int)) (n := n) (by omega) (by omega)
  rw [this]
  rfl
end Wm
end
section
set_option Elab.async false
set_option linter.all false
set_option maxRecDepth 100000
set_option maxHeartbeats 4000000
/-! who is reached, fair distances, roads, closed sets: what k15 says of a web -/
namespace Wm
open PySem PySem.Spec PyProof.Rows L2 Lf
open Evl
section
variable {m : Nat} {ps : PS} {al : List Nat}
/-- one round: those of al that are in s, or hear one of s -/
def spread (ps : PS) (al : List Nat) (s : List Nat) : List Nat := al.filter fun p => decide (p ∈ s) || (rowOf ps p).any fun q => decide (q ∈ s)
def spreads (ps : PS) (al : List Nat) (s : List Nat) : Nat → List Nat
  | 0 => s
  | k + 1 => spread ps al (spreads ps al s k)
theorem mem_spread {s : List Nat} {p : Nat} : p ∈ spread ps al s ↔ p ∈ al ∧ (p ∈ s ∨ ∃ q, q ∈ rowOf ps p ∧ q ∈ s) := by
  unfold spread
  rw [List.mem_filter, Bool.or_eq_true, decide_eq_true_eq, List.any_eq_true]
  refine and_congr_right fun _ => or_congr_right ⟨?_, ?_⟩
  · rintro ⟨q, h1, h2⟩
    exact ⟨q, h1, of_decide_eq_true h2⟩
  · rintro ⟨q, h1, h2⟩
    exact ⟨q, h1, decide_eq_true h2⟩
theorem reach_iff (h0 : 0 ∈ al) : ∀ {k p : Nat}, p ∈ spreads ps al [0] k ↔ ∃ j, j ≤ k ∧ rch ps al j p = true
  | 0, p => by
    show p ∈ [0] ↔ _
    rw [List.mem_singleton]
    constructor
    · rintro rfl
      exact ⟨0, Nat.le_refl _, rfl⟩
    · rintro ⟨j, hj, h⟩
      have : j = 0 := by omega
      subst this
      exact of_decide_eq_true h
  | k + 1, p => by
    show p ∈ spread ps al (spreads ps al [0] k) ↔ _
    rw [mem_spread, reach_iff h0]
    constructor
    · rintro ⟨h1, ⟨j, hj, h2⟩ | ⟨q, hq, h2⟩⟩
      · exact ⟨j, by omega, h2⟩
      · obtain ⟨j, hj, h3⟩ := (reach_iff h0).mp h2
        exact ⟨j + 1, by omega, rch_succ.mpr ⟨h1, q, hq, h3⟩⟩
    · rintro ⟨j, hj, h⟩
      cases j with
      | zero =>
        have : p = 0 := of_decide_eq_true h
        subst this
        exact ⟨h0, .inl ⟨0, Nat.zero_le _, rfl⟩⟩
      | succ j =>
        obtain ⟨h1, q, hq, h2⟩ := rch_succ.mp h
        exact ⟨h1, .inr ⟨q, hq, (reach_iff h0).mpr ⟨j, by omega, h2⟩⟩⟩
def reached (m : Nat) (ps : PS) (al : List Nat) : List Nat := al.filter fun p => !(far m ps al p).isNone
theorem reach_all (m0 : 0 < m) (hal : ∀ x ∈ al, x < m) (h0 : 0 ∈ al) : spreads ps al [0] m = reached m ps al := by
  obtain ⟨n, rfl⟩ : ∃ n, m = n + 1 := ⟨m - 1, by omega⟩
  show al.filter _ = al.filter _
  refine List.filter_congr fun p hp => ?_
  rw [Bool.eq_iff_iff]
  have h1 : (decide (p ∈ spreads ps al [0] n) || (rowOf ps p).any fun q => decide (q ∈ spreads ps al [0] n)) = true ↔ p ∈ spreads ps al [0] (n + 1) := by
    show _ ↔ p ∈ spread ps al _
    unfold spread
    rw [List.mem_filter]
    exact ⟨fun h => ⟨hp, h⟩, fun h => h.2⟩
  rw [h1, reach_iff h0, Bool.not_eq_true', Option.isNone_eq_false_iff]
  constructor
  · rintro ⟨j, _, h⟩
    cases q : far (n + 1) ps al p with
    | none =>
      rw [(far_none m0 hal).mp q j] at h
      cases h
    | some k => rfl
  · intro h
    obtain ⟨k, hk⟩ := Option.isSome_iff_exists.mp h
    have h2 := dist_some.mp hk
    exact ⟨k, by omega, h2.2.1⟩
theorem far_root (m0 : 0 < m) (hal : ∀ x ∈ al, x < m) : far m ps al 0 = some 0 := (far_some m0 hal).mpr ⟨rfl, fun j h => absurd h (Nat.not_lt_zero _)⟩
theorem far_dead (m0 : 0 < m) (hal : ∀ x ∈ al, x < m) {p : Nat} (h : p ∉ al) (hp : p ≠ 0) : far m ps al p = none := by
  refine (far_none m0 hal).mpr fun k => ?_
  cases k with
  | zero => exact decide_eq_false hp
  | succ k =>
    cases q : rch ps al (k + 1) p with
    | false => rfl
    | true => exact absurd (rch_succ.mp q).1 h
/-- a step nearer -/
theorem far_pred (m0 : 0 < m) (hal : ∀ x ∈ al, x < m) {p k : Nat} (h : far m ps al p = some (k + 1)) : p ∈ al ∧ ∃ q, q ∈ rowOf ps p ∧ far m ps al q = some k := by
  obtain ⟨h1, h2⟩ := (far_some m0 hal).mp h
  obtain ⟨h3, q, h4, h5⟩ := rch_succ.mp h1
  refine ⟨h3, q, h4, (far_some m0 hal).mpr ⟨h5, fun j hj => ?_⟩⟩
  cases h6 : rch ps al j q with
  | false => rfl
  | true =>
    have h7 := h2 (j + 1) (by omega)
    rw [rch_succ.mpr ⟨h3, q, h4, h6⟩] at h7
    cases h7
/-- a neighbour's distance is at most one less -/
theorem far_near (m0 : 0 < m) (hal : ∀ x ∈ al, x < m) {p q k : Nat} (hp : p ∈ al) (hq : q ∈ rowOf ps p) (h : far m ps al q = some k) : ∃ j, far m ps al p = some j ∧ j ≤ k + 1 := by
  have h1 := ((far_some m0 hal).mp h).1
  have h2 : rch ps al (k + 1) p = true := rch_succ.mpr ⟨hp, q, hq, h1⟩
  cases h3 : far m ps al p with
  | none =>
    rw [(far_none m0 hal).mp h3] at h2
    cases h2
  | some j =>
    refine ⟨j, rfl, Nat.le_of_not_lt fun lt => ?_⟩
    rw [((far_some m0 hal).mp h3).2 _ lt] at h2
    cases h2
/-- the neighbours' distances, those that live and have one -/
def stepsOf (m : Nat) (ps : PS) (al : List Nat) (p : Nat) : List Nat := ((rowOf ps p).filter fun q => decide (q ∈ al) && !(far m ps al q).isNone).map fun q => (far m ps al q).getD 0
theorem mem_steps {p k : Nat} : k ∈ stepsOf m ps al p ↔ ∃ q, q ∈ rowOf ps p ∧ q ∈ al ∧ far m ps al q = some k := by
  unfold stepsOf
  rw [List.mem_map]
  constructor
  · rintro ⟨q, h1, h2⟩
    obtain ⟨h3, h4⟩ := List.mem_filter.mp h1
    rw [Bool.and_eq_true, decide_eq_true_eq] at h4
    refine ⟨q, h3, h4.1, ?_⟩
    cases h5 : far m ps al q with
    | none =>
      rw [h5] at h4
      cases h4.2
    | some j =>
      rw [h5] at h2
      exact congrArg some h2
  · rintro ⟨q, h1, h2, h3⟩
    refine ⟨q, List.mem_filter.mpr ⟨h1, ?_⟩, by rw [h3]; rfl⟩
    rw [h3, decide_eq_true h2]
    rfl
theorem fair_none (m0 : 0 < m) (hal : ∀ x ∈ al, x < m) (h0 : 0 ∈ al) {p : Nat} (hp : p ≠ 0) (h : p ∉ al ∨ stepsOf m ps al p = []) : far m ps al p = none := by
  rcases h with h | h
  · exact far_dead m0 hal h hp
  · cases h1 : far m ps al p with
    | none => rfl
    | some k =>
      cases k with
      | zero => exact absurd (of_decide_eq_true ((far_some m0 hal).mp h1).1) hp
      | succ k =>
        obtain ⟨h2, q, h3, h4⟩ := far_pred m0 hal h1
        have hq : q ∈ al := by
          by_cases e : q ∈ al
          · exact e
          · by_cases e0 : q = 0
            · exact absurd (e0 ▸ h0) e
            · rw [far_dead m0 hal e e0] at h4
              cases h4
        have := mem_steps.mpr ⟨q, h3, hq, h4⟩
        rw [h] at this
        cases this
theorem fair_some (m0 : 0 < m) (hal : ∀ x ∈ al, x < m) (h0 : 0 ∈ al) {p k : Nat} (hp : p ≠ 0) (ha : p ∈ al) (hk : k ∈ stepsOf m ps al p) (hmin : ∀ j ∈ stepsOf m ps al p, k ≤ j) : far m ps al p = some (1 + k) := by
  obtain ⟨q, h1, h2, h3⟩ := mem_steps.mp hk
  obtain ⟨j, h4, h5⟩ := far_near m0 hal ha h1 h3
  cases j with
  | zero => exact absurd (of_decide_eq_true ((far_some m0 hal).mp h4).1) hp
  | succ j =>
    obtain ⟨_, r, h6, h7⟩ := far_pred m0 hal h4
    have hr : r ∈ al := by
      by_cases e : r ∈ al
      · exact e
      · by_cases e0 : r = 0
        · exact absurd (e0 ▸ h0) e
        · rw [far_dead m0 hal e e0] at h7
          cases h7
    have := hmin j (mem_steps.mpr ⟨r, h6, hr, h7⟩)
    rw [h4]
    congr 1
    omega
/-! closed sets -/
theorem spreads_al {s : List Nat} (hs : ∀ x ∈ s, x ∈ al) : ∀ {k p : Nat}, p ∈ spreads ps al s k → p ∈ al
  | 0, p, h => hs p h
  | k + 1, p, h => (mem_spread.mp h).1
theorem spreads_le {s : List Nat} (hs : ∀ x ∈ s, x ∈ al) {k p : Nat} (h : p ∈ spreads ps al s k) : p ∈ spreads ps al s (k + 1) := mem_spread.mpr ⟨spreads_al hs h, .inl h⟩
theorem spreads_mono {s : List Nat} (hs : ∀ x ∈ s, x ∈ al) {p j : Nat} : ∀ {k : Nat}, j ≤ k → p ∈ spreads ps al s j → p ∈ spreads ps al s k
  | 0, h, h1 => by
    have : j = 0 := by omega
    exact this ▸ h1
  | k + 1, h, h1 => by
    by_cases e : j = k + 1
    · exact e ▸ h1
    · exact spreads_le hs (spreads_mono hs (by omega) h1)
/-- closed: who lives and hears one of s is in s -/
def Closed (ps : PS) (al s : List Nat) : Prop := ∀ p, p ∈ al → ∀ q, q ∈ rowOf ps p → q ∈ s → p ∈ s
theorem closed_stay {s : List Nat} (hs : ∀ x ∈ s, x ∈ al) {k : Nat} (h : ∀ p, p ∈ spreads ps al s (k + 1) → p ∈ spreads ps al s k) : ∀ {j p : Nat}, k ≤ j → p ∈ spreads ps al s j → p ∈ spreads ps al s k := by
  intro j
  induction j with
  | zero =>
    intro p hj h1
    have : k = 0 := by omega
    exact this ▸ h1
  | succ j ih =>
    intro p hj h1
    by_cases e : k = j + 1
    · exact e ▸ h1
    · obtain ⟨h2, h3 | ⟨q, h3, h4⟩⟩ := mem_spread.mp h1
      · exact ih (by omega) h3
      · exact h p (mem_spread.mpr ⟨h2, .inr ⟨q, h3, ih (by omega) h4⟩⟩)
theorem closed_end {s : List Nat} (hs : ∀ x ∈ s, x ∈ al) (hal : ∀ x ∈ al, x < m) (hne : s ≠ []) : Closed ps al (spreads ps al s m) := by
  have ex : ∃ k, k < m ∧ ∀ p, p ∈ spreads ps al s (k + 1) → p ∈ spreads ps al s k := by
    refine Classical.byContradiction fun no => ?_
    have grow : ∀ k, k ≤ m → k + 1 ≤ (List.range m).countP fun p => decide (p ∈ spreads ps al s k) := by
      intro k
      induction k with
      | zero =>
        intro _
        obtain ⟨x, hx⟩ := List.exists_mem_of_ne_nil _ hne
        exact List.countP_pos_iff.mpr ⟨x, List.mem_range.mpr (hal x (hs x hx)), decide_eq_true hx⟩
      | succ k ih =>
        intro hk
        have h1 := ih (by omega)
        have h2 : ∃ p, p ∈ spreads ps al s (k + 1) ∧ p ∉ spreads ps al s k := by
          refine Classical.byContradiction fun h3 => no ⟨k, by omega, fun p hp => Classical.byContradiction fun h4 => h3 ⟨p, hp, h4⟩⟩
        obtain ⟨p, h3, h4⟩ := h2
        have lt := count_lt (p := fun p => decide (p ∈ spreads ps al s k)) (q := fun p => decide (p ∈ spreads ps al s (k + 1))) (l := List.range m) (fun x _ hx => decide_eq_true (spreads_le hs (of_decide_eq_true hx))) ⟨p, List.mem_range.mpr (hal p (spreads_al hs h3)), decide_eq_true h3, decide_eq_false h4⟩
        omega
    have h1 := grow m (Nat.le_refl m)
    have h2 := List.countP_le_length (p := fun p => decide (p ∈ spreads ps al s m)) (l := List.range m)
    rw [List.length_range] at h2
    omega
  obtain ⟨k, hk, h⟩ := ex
  intro p hp q hq h1
  have h2 := closed_stay hs h (by omega) h1
  exact spreads_mono hs (show k ≤ m by omega) (h p (mem_spread.mpr ⟨hp, .inr ⟨q, hq, h2⟩⟩))
/-- a closed set without the root has no distance -/
theorem closed_far {s : List Nat} (m0 : 0 < m) (hal : ∀ x ∈ al, x < m) (h0 : 0 ∈ al) (hs : Closed ps al s) (hsa : ∀ x ∈ s, x ∈ al) (sym : ∀ a b, a ∈ rowOf ps b → b ∈ rowOf ps a) (n0 : 0 ∉ s) : ∀ {k p : Nat}, p ∈ s → rch ps al k p = false
  | 0, p, h => decide_eq_false fun e => n0 (e ▸ h)
  | k + 1, p, h => by
    cases q : rch ps al (k + 1) p with
    | false => rfl
    | true =>
      obtain ⟨h1, r, h2, h3⟩ := rch_succ.mp q
      have hr : r ∈ al := by
        cases k with
        | zero =>
          have : r = 0 := of_decide_eq_true h3
          exact this ▸ h0
        | succ k => exact (rch_succ.mp h3).1
      have := closed_far m0 hal h0 hs hsa sym n0 (hs r hr p (sym _ _ h2) h) (k := k)
      rw [h3] at this
      cases this
theorem row_sym (g : Good m ps) {a b : Nat} (h : a ∈ rowOf ps b) : b ∈ rowOf ps a := by
  obtain ⟨p, hp, ⟨e1, e2⟩ | ⟨e1, e2, e3⟩⟩ := mem_row.mp h
  · have := (g.lt p hp).1
    exact mem_row.mpr ⟨p, hp, .inr ⟨by omega, e2.symm, e1.symm⟩⟩
  · exact mem_row.mpr ⟨p, hp, .inl ⟨e3.symm, e2.symm⟩⟩
theorem row_ne (g : Good m ps) {a b : Nat} (h : a ∈ rowOf ps b) : a ≠ b := by
  obtain ⟨p, hp, ⟨e1, e2⟩ | ⟨e1, e2, e3⟩⟩ := mem_row.mp h <;> have := (g.lt p hp).1 <;> omega
/-- each one of a spread from one place has a neighbour in it, if it is not alone -/
theorem spread_near (g : Good m ps) {x : Nat} (hx : x ∈ al) {k r o : Nat} (hr : r ∈ spreads ps al [x] k) (ho : o ∈ spreads ps al [x] k) (ne : r ≠ o) : ∃ n, n ∈ spreads ps al [x] k ∧ n ≠ r ∧ r ∈ rowOf ps n := by
  have hs : ∀ y ∈ [x], y ∈ al := fun y hy => by rw [List.mem_singleton.mp hy]; exact hx
  have other : ∀ {k r : Nat}, r ∈ spreads ps al [x] k → r ≠ x → ∃ n, n ∈ spreads ps al [x] k ∧ n ∈ rowOf ps r := by
    intro k
    induction k with
    | zero =>
      intro r h1 h2
      exact absurd (List.mem_singleton.mp h1) h2
    | succ k ih =>
      intro r h1 h2
      obtain ⟨h3, h4 | ⟨q, h4, h5⟩⟩ := mem_spread.mp h1
      · obtain ⟨n, h5, h6⟩ := ih h4 h2
        exact ⟨n, spreads_le hs h5, h6⟩
      · exact ⟨q, spreads_le hs h5, h4⟩
  by_cases e : r = x
  · subst e
    -- the first one that is not r was brought by r
    have first : ∀ {k o : Nat}, o ∈ spreads ps al [r] k → o ≠ r → ∃ n, n ∈ spreads ps al [r] k ∧ n ≠ r ∧ r ∈ rowOf ps n := by
      intro k
      induction k with
      | zero =>
        intro o h1 h2
        exact absurd (List.mem_singleton.mp h1) h2
      | succ k ih =>
        intro o h1 h2
        obtain ⟨h3, h4 | ⟨q, h4, h5⟩⟩ := mem_spread.mp h1
        · obtain ⟨n, h5, h6⟩ := ih h4 h2
          exact ⟨n, spreads_le hs h5, h6⟩
        · by_cases e2 : q = r
          · exact ⟨o, h1, h2, e2 ▸ h4⟩
          · obtain ⟨n, h6, h7⟩ := ih h5 e2
            exact ⟨n, spreads_le hs h6, h7⟩
    exact first ho (fun z => ne z.symm)
  · obtain ⟨n, h1, h2⟩ := other hr e
    exact ⟨n, h1, row_ne g h2, row_sym g h2⟩
theorem spread_pw {s : List Nat} (pw : al.Pairwise (· < ·)) {k : Nat} (hk : 0 < k) : (spreads ps al s k).Pairwise (· < ·) := by
  obtain ⟨n, rfl⟩ : ∃ n, k = n + 1 := ⟨k - 1, by omega⟩
  exact pw.filter _
/-- what cut_holds says of closed sets, and of such without one -/
theorem cut_closed {cs : List Nat} (hc : Closed ps al cs) (hsa : ∀ x ∈ cs, x ∈ al) (pw : cs.Pairwise (· < ·)) (sym : ∀ a b, a ∈ rowOf ps b → b ∈ rowOf ps a) (n0 : 0 ∉ cs) : cutHolds ps al cs = true := by
  unfold cutHolds
  have h1 : (cs.any fun x => decide (x = 0) || !decide (x ∈ al)) = false := by
    rw [List.any_eq_false]
    intro x hx
    rw [decide_eq_false (fun e : x = 0 => n0 (e ▸ hx)), decide_eq_true (hsa x hx)]
    decide
  have h3 : ((cs.flatMap (rowOf ps)).all fun n => decide (n ∈ cs) || !decide (n ∈ al)) = true := by
    rw [List.all_eq_true]
    intro n hn
    obtain ⟨x, hx, hr⟩ := List.mem_flatMap.mp hn
    by_cases hna : n ∈ al
    · rw [decide_eq_true (hc n hna x (sym _ _ hr) hx)]
      rfl
    · rw [decide_eq_false hna]
      exact Bool.or_true _
  rw [h1, rises_of pw, h3]
  rfl
theorem cut_root {cs : List Nat} (h : 0 ∈ cs) : cutHolds ps al cs = false := by
  unfold cutHolds
  have : (cs.any fun x => decide (x = 0) || !decide (x ∈ al)) = true := List.any_eq_true.mpr ⟨0, h, rfl⟩
  rw [this]
  rfl
theorem cut_open {cs : List Nat} {n r : Nat} (hn : n ∈ cs) (hr : r ∈ rowOf ps n) (hal : r ∈ al) (hno : r ∉ cs) : cutHolds ps al cs = false := by
  unfold cutHolds
  have : ((cs.flatMap (rowOf ps)).all fun n => decide (n ∈ cs) || !decide (n ∈ al)) = false := by
    rw [List.all_eq_false]
    refine ⟨r, List.mem_flatMap.mpr ⟨n, hn, hr⟩, ?_⟩
    rw [decide_eq_false hno, decide_eq_true hal]
    decide
  rw [this]
  exact Bool.and_false _
end
end Wm
namespace Wm
open PySem PySem.Spec PyProof.Rows L2 Lf
open Evl
theorem given_gen (b : List Nat) (f : Nat → Bool) (g : Nat → V) : given b.length (fun n => f (b.getD n 0)) (fun n => g (b.getD n 0)) = (b.filter f).map g := by
  have e : b = (List.range b.length).map fun i => b.getD i 0 := by
    refine List.ext_getElem? fun i => ?_
    by_cases q : i < b.length
    · rw [List.getElem?_map, List.getElem?_range q, List.getElem?_eq_getElem q]
      show _ = some (b.getD i 0)
      rw [List.getD_eq_getElem?_getD, List.getElem?_eq_getElem q]
      rfl
    · rw [List.getElem?_eq_none (by omega), List.getElem?_eq_none (by rw [List.length_map, List.length_range]; omega)]
  unfold given
  conv => rhs; rw [e]
  rw [List.filter_map, List.map_map]
  rfl
theorem steps_given (m : Nat) (ps : PS) (al : List Nat) (p : Nat) : ((rowOf ps p).filter fun q => decide (q ∈ al) && !(far m ps al q).isNone).map (fun q => oV (far m ps al q)) = vN (stepsOf m ps al p) := by
  unfold vN stepsOf
  rw [List.map_map]
  refine List.map_congr_left fun q hq => ?_
  obtain ⟨_, h⟩ := List.mem_filter.mp hq
  rw [Bool.and_eq_true] at h
  cases h5 : far m ps al q with
  | none =>
    rw [h5] at h
    cases h.2
  | some k =>
    show V.int (k : Int) = V.int (((far m ps al q).getD 0 : Nat) : Int)
    rw [h5]
    rfl
theorem has_min : ∀ {l : List Nat}, l ≠ [] → ∃ k ∈ l, ∀ j ∈ l, k ≤ j
  | [], h => absurd rfl h
  | [x], _ => ⟨x, List.mem_singleton.mpr rfl, fun j hj => by rw [List.mem_singleton.mp hj]; exact Nat.le_refl _⟩
  | x :: y :: l, _ => by
    obtain ⟨k, hk, h⟩ := has_min (l := y :: l) (fun z => nomatch z)
    by_cases e : x ≤ k
    · exact ⟨x, List.mem_cons_self, fun j hj => by
        rcases List.mem_cons.mp hj with rfl | hj
        · exact Nat.le_refl _
        · exact Nat.le_trans e (h j hj)⟩
    · exact ⟨k, List.mem_cons_of_mem _ hk, fun j hj => by
        rcases List.mem_cons.mp hj with rfl | hj
        · omega
        · exact h j hj⟩
theorem far_cases {m : Nat} {ps : PS} {al : List Nat} (m0 : 0 < m) (hal : ∀ x ∈ al, x < m) (h0 : 0 ∈ al) {p : Nat} (hp : p ≠ 0) : (decide (p ∈ al) && !(stepsOf m ps al p).isEmpty) = true ∧ (∃ k ∈ stepsOf m ps al p, (∀ j ∈ stepsOf m ps al p, k ≤ j) ∧ far m ps al p = some (1 + k)) ∨ (decide (p ∈ al) && !(stepsOf m ps al p).isEmpty) = false ∧ far m ps al p = none := by
  by_cases h : p ∈ al
  · rw [decide_eq_true h, Bool.true_and]
    cases q : stepsOf m ps al p with
    | nil => exact .inr ⟨rfl, fair_none m0 hal h0 hp (.inr q)⟩
    | cons x xs =>
      have ne : stepsOf m ps al p ≠ [] := by rw [q]; exact fun z => nomatch z
      obtain ⟨k, hk, hm⟩ := has_min ne
      rw [← q]
      refine .inl ⟨?_, k, hk, hm, fair_some m0 hal h0 hp h hk hm⟩
      rw [q]
      rfl
  · rw [decide_eq_false h]
    exact .inr ⟨rfl, fair_none m0 hal h0 hp (.inl h)⟩
end Wm
namespace Wm
open PySem PySem.Spec PyProof.Rows L2 Lf
open Evl
theorem rep_oD {m : Nat} {ps : PS} {al : List Nat} {p : Nat} (h : m ≤ 1000) : Rep 60 1000000 (oD (far m ps al p)) := by
  cases q : far m ps al p with
  | none => exact Rep.non.mono (by decide) (by decide)
  | some k =>
    have := (dist_some.mp q).1
    exact (Rep.int (i := (k : Int)) (by show k < _; omega)).mono (by decide) (by decide)
theorem ev_min {K : PySem.W.Frag} {σ : L2.St} {H : Hp} {te : TE} {l : Addr} {s : List Nat} {k : Nat} (hl : H l = some (.lst (vN s))) (h : Ev te σ H (.ref l)) (hk : k ∈ s) (hm : ∀ j ∈ s, k ≤ j) : Ev (tCB (rMin K) (tCons te tNil)) σ H (.int (k : Int)) :=
  ev_cb (ea_cons h ea_nil) fun H2 e2 Q q => ⟨l, s.map fun n : Nat => (n : Int), rfl, by
    have e : (s.map fun n : Nat => (n : Int)).map V.int = vN s := by
      unfold vN
      rw [List.map_map]
      rfl
    rw [e]
    exact sq_of (e2 _ _ hl), by rw [List.length_map]; exact List.length_pos_of_mem hk, fun x hx hall => by
    obtain ⟨n, hn, rfl⟩ := List.mem_map.mp hx
    have h1 := hm n hn
    have h2 := hall (k : Int) (List.mem_map.mpr ⟨k, hk, rfl⟩)
    have : n = k := by omega
    rw [this]
    exact q H2 (Ex.refl _)⟩
end Wm
namespace Wm
open PySem PySem.Spec PyProof.Rows L2 Lf
open Evl
theorem vN_snoc (b : List Nat) (n : Nat) : vN (b ++ [n]) = vN b ++ [V.int (n : Int)] := by
  unfold vN
  rw [List.map_append]
  rfl
theorem vN_last (b : List Nat) (n : Nat) : atI (vN (b ++ [n])) (-1) = some (.int (n : Int)) := by
  rw [vN_snoc]
  exact atI_last _ _
/-- a road by neighbours through the living ones, from x to the root -/
structure Road (ps : PS) (al : List Nat) (x : Nat) (rs : List Nat) : Prop where
  first : rs[0]? = some x
  last : ∃ pre, rs = pre ++ [0]
  ins : ∀ y ∈ rs, y ∈ al
  adj : ∀ i y z, rs[i]? = some y → rs[i + 1]? = some z → z ∈ rowOf ps y
  few : rs.length ≤ 1000
theorem snoc_of : ∀ {l : List Nat}, l ≠ [] → ∃ pre y, l = pre ++ [y]
  | l, h => ⟨l.dropLast, l.getLast h, (List.dropLast_concat_getLast h).symm⟩
theorem far_in {m : Nat} {ps : PS} {al : List Nat} (m0 : 0 < m) (hal : ∀ x ∈ al, x < m) (h0 : 0 ∈ al) {p k : Nat} (h : far m ps al p = some k) : p ∈ al := by
  by_cases e : p ∈ al
  · exact e
  · by_cases e0 : p = 0
    · exact e0 ▸ h0
    · rw [far_dead m0 hal e e0] at h
      cases h
theorem oV_int {o : Option Nat} {k : Nat} : decide (oV o = V.int (k : Int)) = decide (o = some k) := by
  rw [decide_eq_decide]
  cases o with
  | none =>
    constructor
    · intro h
      cases h
    · intro h
      cases h
  | some j =>
    constructor
    · intro h
      have h1 : V.int (j : Int) = V.int (k : Int) := h
      have := V.int.inj h1
      congr 1
      omega
    · intro h
      rw [Option.some.inj h]
      rfl
end Wm
namespace Wm
open PySem PySem.Spec PyProof.Rows L2 Lf
theorem oV_scal (o : Option Nat) (i : Int) : scal (oV o) (V.int i) = true := by
  cases o <;> rfl
end Wm
namespace Wm
open PySem PySem.Spec PyProof.Rows L2 Lf
open Evl
theorem cutV_take (xs : List V) {j : Nat} (h : j ≤ xs.length) : cutV xs none (some (j : Int)) = xs.take j := by
  unfold cutV
  rw [HT.sIx_none, HT.sIx_nat, List.drop_zero, Nat.sub_zero, Nat.min_eq_left h]
theorem cutV_drop (xs : List V) {j : Nat} (h : j ≤ xs.length) : cutV xs (some (j : Int)) none = xs.drop j := by
  unfold cutV
  rw [HT.sIx_none, HT.sIx_nat, Nat.min_eq_left h, List.take_of_length_le (by rw [List.length_drop]; omega)]
theorem vN_take (b : List Nat) (j : Nat) : (vN b).take j = vN (b.take j) := by
  unfold vN
  rw [List.map_take]
theorem vN_drop (b : List Nat) (j : Nat) : (vN b).drop j = vN (b.drop j) := by
  unfold vN
  rw [List.map_drop]
theorem vN_app (a b : List Nat) : vN a ++ vN b = vN (a ++ b) := by
  unfold vN
  rw [List.map_append]
section
variable {m : Nat} {ps : PS} {al : List Nat}
theorem cut_empty : cutHolds ps al [] = true := rfl
/-- one taken out of a closed set of one root: not closed any more -/
theorem cut_less (g : Good m ps) {x : Nat} (hx : x ∈ al) (pw : al.Pairwise (· < ·)) {S : List Nat} (hS : S = spreads ps al [x] m) (hm : 0 < m) {j : Nat} (hj : j < S.length) (h1 : 1 < S.length) : cutHolds ps al (S.take j ++ S.drop (j + 1)) = false := by
  have hs : ∀ y ∈ [x], y ∈ al := fun y hy => by rw [List.mem_singleton.mp hy]; exact hx
  have pS : S.Pairwise (· < ·) := by rw [hS]; exact spread_pw pw hm
  have lt : ∀ a b (ha : a < S.length) (hb : b < S.length), a < b → S[a] < S[b] := fun a b ha hb hab => List.pairwise_iff_getElem.mp pS a b ha hb hab
  have mem : ∀ i (hi : i < S.length), S[i] ∈ spreads ps al [x] m := fun i hi => by
    rw [← hS]
    exact List.getElem_mem hi
  have hr := mem j hj
  have other : ∃ o, o ∈ spreads ps al [x] m ∧ S[j] ≠ o := by
    by_cases e : j = 0
    · exact ⟨S[1], mem 1 h1, by have := lt j 1 hj h1 (by omega); omega⟩
    · exact ⟨S[0], mem 0 (by omega), by have := lt 0 j (by omega) hj (by omega); omega⟩
  obtain ⟨o, ho, ne⟩ := other
  obtain ⟨n, hn, nr, hrow⟩ := spread_near g hx hr ho ne
  refine cut_open (n := n) (r := S[j]) ?_ hrow (spreads_al hs hr) ?_
  · rw [← hS] at hn
    obtain ⟨i, hi, rfl⟩ := List.mem_iff_getElem.mp hn
    rw [List.mem_append]
    by_cases e : i < j
    · exact .inl (List.mem_take_iff_getElem.mpr ⟨i, by omega, rfl⟩)
    · refine .inr (List.mem_drop_iff_getElem.mpr ⟨i - (j + 1), ?_, ?_⟩)
      · by_cases e2 : i = j
        · subst e2
          exact absurd rfl nr
        · omega
      · by_cases e2 : i = j
        · subst e2
          exact absurd rfl nr
        · have e3 : j + 1 + (i - (j + 1)) = i := by omega
          simp only [e3]
  · intro h
    rcases List.mem_append.mp h with h | h
    · obtain ⟨i, hi, e⟩ := List.mem_take_iff_getElem.mp h
      have := lt i j (by omega) hj (by omega)
      omega
    · obtain ⟨i, hi, e⟩ := List.mem_drop_iff_getElem.mp h
      have := lt j (j + 1 + i) hj (by omega) (by omega)
      omega
end
end Wm
end
section
set_option Elab.async false
set_option linter.all false
set_option maxRecDepth 100000
set_option maxHeartbeats 4000000
/-! Ls: targets with a star, a tuple unpacked. -/
namespace Lf
open PySem PySem.Spec PyProof.Rows L2
open Evl
section
variable {prog : Program} {w : World} {A : Around} {E : Value → Shared → Prop} {I : Addr} {fp wr : List Addr} {G : Array GenState → Array GenState → Prop} {n : Nat} {P : Nat → Value → Prop} {St : Nat → Shared → Prop}
theorem walks_shift (W : WalksS prog w A I fp wr G n P St) (i : Nat) (hi : i ≤ n) : WalksS prog w A I fp wr G (n - i) (fun j => P (i + j)) (fun j => St (i + j)) where
  sub := W.sub
  grefl := W.grefl
  gtrans := W.gtrans
  frame := fun j s h' tk => W.frame (i + j) s h' tk
  item := fun j s Q E hj st hQ => W.item (i + j) s Q E (by omega) st fun v s' hp hs m => hQ v s' hp (by rw [← Nat.add_assoc]; exact hs) m
  done := fun s Q E st hQ => W.done s Q E (by rw [show i + (n - i) = n by omega] at st; exact st) hQ
  self := fun j s Q E st hQ => W.self (i + j) s Q E st hQ
theorem draw_walk (W : WalksS prog w A I fp wr G n P St) : ∀ (m i : Nat) (s : Shared) (Q : List Value → Shared → Prop), St i s → i + m ≤ n → (∀ out s', Moved wr G s s' → St (i + m) s' → out.length = m → (∀ j v, out[j]? = some v → P (i + j) v) → Q out s') → wpAny (model prog w) A (draw (.ref I) m) Q E s
  | 0, i, s, Q, st, _, h => by
    show wpAny _ _ (pure []) Q E s
    exact wpAny_pure (h [] s (Moved.refl W.grefl) st rfl fun j v hj => by simp at hj)
  | m + 1, i, s, Q, st, hle, h => by
    show wpAny _ _ (pyNext (.ref I) >>= _) Q E s
    refine wpAny_bind (W.item i s _ _ (by omega) st fun v s1 hp st1 m1 => ?_)
    refine wpAny_bind (wpAny_holding (draw_walk W m (i + 1) s1 _ st1 (by omega) fun out s2 m2 st2 hl hv => wpAny_pure ?_))
    refine h (v :: out) s2 (Moved.trans W.gtrans m1 m2) (by rw [show i + (m + 1) = i + 1 + m by omega]; exact st2) (by rw [List.length_cons, hl]) fun j u hj => ?_
    cases j with
    | zero => simp at hj; subst hj; exact hp
    | succ j =>
      have := hv j u (by simpa using hj)
      rw [show i + (j + 1) = i + 1 + j by omega]
      exact this
theorem out_eq {vs : Array Value} {out : List Value} {i m : Nat} (hl : out.length = m) (hle : i + m ≤ vs.size) (h : ∀ j v, out[j]? = some v → vs[i + j]? = some v) : out = (vs.toList.drop i).take m := by
  refine List.ext_getElem? fun j => ?_
  by_cases hj : j < m
  · have e : out[j]? = some out[j] := List.getElem?_eq_getElem (by omega)
    have := h j _ e
    rw [e, List.getElem?_take, if_pos hj, List.getElem?_drop, Array.getElem?_toList]
    exact this.symm
  · rw [List.getElem?_eq_none (by omega), List.getElem?_eq_none]
    rw [List.length_take, List.length_drop, Array.length_toList]
    omega
theorem unpack_star {s : Shared} {t : Addr} {vs : Array Value} {m i : Nat} {Q : List Value → Shared → Prop} (hh : A.handled = none) (ht : s.heap.IsTuple t vs) (hi : i < m) (hsz : m - 1 ≤ vs.size) (hz : vs.size ≤ sizeLine)
    (h : ∀ (h' : Heap) (tk : Nat), (∀ b o, s.heap.get? b = some o → h'.get? b = some o) → Q (vs.toList.take i ++ [.ref h'.objs.size] ++ vs.toList.drop (vs.size - (m - 1 - i))) { s with heap := h'.push { cls := .type "list", data := .seq ((vs.toList.drop i).take (vs.size - (m - 1))).toArray }, toks := tk }) :
    wpAny (model prog w) A (unpackItems (.ref t) m (some i)) Q E s := by
  unfold unpackItems
  refine wpAny_bind ?_
  · unfold notIterableAtAll
    have hT : s.TypeIs (.ref t) "tuple" := let ⟨o, ho, hc, _⟩ := ht; ⟨o, ho, hc⟩
    refine wpAny_bind (wpAny_specialOf hT slot_tuple_iter.lookup ?_)
    refine wpAny_pure ?_
    simp only [Bool.false_eq_true, if_false]
    refine wpAny_bind (wpAny_holding (PySem.W.iter_tupleW (A := A) hh ht fun s2 e2 W st hfp hw hk => ?_))
    refine wpAny_bind (wpAny_holding (draw_walk W i 0 s2 _ st (by omega) fun out s3 m3 st3 hl hv => ?_))
    have eo := out_eq (vs := vs) (i := 0) hl (by omega) (fun j v hj => by have := hv j v hj; exact this)
    rw [if_neg (by omega)]
    have hlt : t ≠ s.heap.objs.size := by obtain ⟨o, ho, _⟩ := ht; exact Nat.ne_of_lt (Heap.lt_size ho)
    have W1 : WalksS prog w A.in1 s.heap.objs.size [s.heap.objs.size, t] [s.heap.objs.size] (fun a b => b = a) vs.size (fun i v => vs[i]? = some v) (fun i s' => s'.heap.IsTupleIter s.heap.objs.size t i ∧ s'.heap.IsTuple t vs) := (Walks.tuple (A := A.in1) hh s.heap.objs.size t hlt vs).toS
    have W2 := walks_shift W1 i (by omega)
    refine wpAny_bind (wpAny_holding (wpAny_collect_iter (T := "tuple_iterator") (.inr (.inr (.inr rfl))) W2 (fun j s' hs => let ⟨o, ho, hc, _⟩ := hs.1; ⟨o, ho, hc⟩) (by rw [Nat.zero_add] at st3; exact st3) (fun b hb => ?_) (by simp) (fun s4 acc m4 hacc => ?_) (by omega)))
    · obtain ⟨⟨o, ho, _⟩, ⟨o2, ho2, _⟩⟩ := st3
      rcases List.mem_cons.mp hb with rfl | hb
      · exact Heap.lt_size ho
      · rw [List.mem_singleton.mp hb]
        exact Heap.lt_size ho2
    · have ea := out_eq (vs := vs) (i := i) (out := acc.toList) (m := vs.size - i) (by rw [Array.length_toList]; exact hacc.1) (by omega) (fun j v hj => hacc.2 j v (by rw [← Array.getElem?_toList]; exact hj))
      have er : acc.toList = vs.toList.drop i := by
        rw [ea]
        exact List.take_of_length_le (by rw [List.length_drop, Array.length_toList]; omega)
      have elen : acc.toList.length = vs.size - i := by rw [er, List.length_drop, Array.length_toList]
      rw [if_neg (by omega)]
      obtain ⟨h', tk, rfl, hk'⟩ := PySem.W.moved_old e2 rfl (Moved.trans (fun a b c h1 h2 => h2.trans h1) m3 m4)
      refine wpAny_bind (wpAny_newObj_type ?_ (by
        show _ ≤ sizeLine
        rw [List.size_toArray, List.length_take]
        omega))
      refine wpAny_pure ?_
      have := h h' tk hk'
      have e1 : out = vs.toList.take i := by rw [eo]; rfl
      have e3 : acc.toList.length - (m - 1 - i) = vs.size - (m - 1) := by omega
      have e4 : acc.toList.drop (acc.toList.length - (m - 1 - i)) = vs.toList.drop (vs.size - (m - 1 - i)) := by
        rw [er, List.drop_drop, List.length_drop, Array.length_toList]
        congr 1
        omega
      rw [e1, e4, e3, er]
      exact this
theorem assign_star {s : Shared} {env : Env} {elts : List Expr} {x1} {pos : Pos} {t : Addr} {vs : Array Value} {m i : Nat} {Q : Unit → Shared → Prop} (hh : A.handled = none) (ht : s.heap.IsTuple t vs) (hn : (assignEach elts env).length = m) (hst : (assignEach elts env).findIdx? (·.1) = some i) (hi : i < m) (hsz : m - 1 ≤ vs.size) (hz : vs.size ≤ sizeLine)
    (h : ∀ (h' : Heap) (tk : Nat), (∀ b o, s.heap.get? b = some o → h'.get? b = some o) → wpAny (model prog w) A (assignInOrder ((assignEach elts env).map (·.2)) (vs.toList.take i ++ [.ref h'.objs.size] ++ vs.toList.drop (vs.size - (m - 1 - i)))) Q E { s with heap := h'.push { cls := .type "list", data := .seq ((vs.toList.drop i).take (vs.size - (m - 1))).toArray }, toks := tk }) :
    wpAny (model prog w) A (assign (.Tuple elts x1 pos) env (.ref t)) Q E s := by
  rw [assign_Tuple]
  refine wpAny_bind (wpAny_standAt ?_)
  unfold unpack
  rw [hn, hst]
  exact wpAny_bind (wpAny_holding (unpack_star hh ht hi hsz hz h))
end
section
variable {X : Cx} {e : Expr} {es : List Expr} {t : TG} {u : TGs} {p pos : Pos} {K : PySem.W.Frag}
/-- .. , *name, .. -/
theorem pgs_star (h1 : PG X e t) (h2 : PGs X es u) (hs : (assignEach (.Starred e p :: es) X.env).map (·.2) = assign e X.env :: (assignEach es X.env).map (·.2) := by rfl) : PGs X (.Starred e p :: es) (gCons t u) := by
  refine ⟨fun pins s σ H vs us Q I r h => ?_⟩
  obtain ⟨v, vr, e1, h⟩ := h
  subst e1
  cases r with
  | cons r rr =>
    rw [hs]
    refine assignInOrder_cons (thn (h1.run pins s σ H _ _ _ I r h) fun _ s1 ⟨σ1, H1, I1, q1⟩ => ?_)
    exact h2.run pins s1 σ1 H1 _ _ Q I1 rr q1
/-- a, *b, c = a tuple: m targets, the i-th with the star -/
def gStar (K : PySem.W.Frag) (m i : Nat) (t : TGs) : TG := fun v σ H Q => ∃ a xs, v = .ref a ∧ SqT K H a xs ∧ m - 1 ≤ xs.length ∧ ∀ l, H l = none → t (xs.take i ++ [.ref l] ++ xs.drop (xs.length - (m - 1 - i))) σ (upd H l (.lst ((xs.drop i).take (xs.length - (m - 1))))) Q
theorem vals_take {xs : List V} {us : List Value} (r : Vals xs us) (n : Nat) : Vals (xs.take n) (us.take n) := by
  induction r generalizing n with
  | nil => simp; exact .nil
  | cons h t ih =>
    cases n with
    | zero => exact .nil
    | succ n => exact .cons h (ih n)
theorem vals_drop {xs : List V} {us : List Value} (r : Vals xs us) (n : Nat) : Vals (xs.drop n) (us.drop n) := by
  induction r generalizing n with
  | nil => simp; exact .nil
  | cons h t ih =>
    cases n with
    | zero => exact .cons h t
    | succ n => exact ih n
theorem pg_star {kk m i : Nat} {t : TGs} (k : X.K = K) (hc : X.calm = true) (h : PGs X es t) (hn : (assignEach es X.env).length = m := by rfl) (hst : (assignEach es X.env).findIdx? (·.1) = some i := by rfl) (hi : i < m := by decide) : PG X (.Tuple es kk pos) (gStar K m i t) := by
  subst k
  refine ⟨fun pins s σ H v u Q I r hw => ?_⟩
  obtain ⟨a, xs, e1, hq, hl, hw⟩ := hw
  subst e1
  cases r
  obtain ⟨its, rv, ht, hz⟩ := I.tuple hq
  have el := rv.length
  have ht2 : s.heap.IsTuple a its.toArray := ht
  refine assign_star (I.ok.hd hc) ht2 hn hst hi (by rw [List.size_toArray, ← el]; exact hl) (by rw [List.size_toArray, ← el]; exact hz) fun h' tk hk => ?_
  have I1 : Inv X pins σ H { s with heap := h', toks := tk } := I.kept (t' := tk) hk
  have hp := I1.hok.fresh (Nat.le_refl h'.objs.size)
  have I2 : Inv X pins σ (upd H h'.objs.size (.lst ((xs.drop i).take (xs.length - (m - 1))))) { s with heap := h'.push { cls := .type "list", data := .seq ((its.toArray.toList.drop i).take (its.toArray.size - (m - 1))).toArray }, toks := tk } := by
    refine I1.laid (t' := tk) (a := h'.objs.size) (fun b o e => Heap.get?_push_of_some _ e) (Nat.le_refl _) ?_
    refine ⟨?_, (its.drop i).take (its.length - (m - 1)), 0, ?_, ?_⟩
    · rw [List.length_take, List.length_drop]
      omega
    · rw [el]
      exact vals_take (vals_drop rv i) _
    · show (h'.push _).get? _ = _
      rw [Heap.get?_push_size _ rfl]
      rw [List.size_toArray]
  have r1 : Vals [V.ref h'.objs.size] [Value.ref h'.objs.size] := .cons rfl .nil
  have r2 := ((vals_take rv i).append r1).append (vals_drop rv (xs.length - (m - 1 - i)))
  have es2 : its.toArray.size = xs.length := by rw [List.size_toArray, el]
  rw [← es2] at r2
  exact h.run pins _ σ _ _ _ Q I2 (by rw [← es2]; exact r2) (hw _ hp)
end
end Lf
end
section
set_option Elab.async false
set_option linter.all false
set_option maxRecDepth 100000
set_option maxHeartbeats 4000000
namespace K38
local macro_rules | `(tactic| walk_at "pos") => `(tactic| (show (0 : Int) < _; first | decide | omega))
open PySem PySem.Spec PyProof.Rows L2 Lf 
open Evl
local macro_rules | `(tactic| walk_at "lk") => `(tactic| (simp (disch := decide +kernel) only [lk_hit, lk_miss, lk_nil]))
local macro_rules | `(tactic| walk_at "pf") => `(tactic| (simp (disch := decide +kernel) only [pf_hit, pf_miss, pf_nil]))
def topS (i : Nat) : Stmt := PySem.Challenge.pw_listenfield_k38_gaps_of_plans.main.body.getD i (.Pass ⟨0, 0, 0, 0⟩)
abbrev s_text_of : Stmt := topS 1
abbrev ns_text_of : List Str := ["thing"]
theorem sc_text_of : FnScope ns_text_of ["thing"] (defScope s_text_of) := ⟨rfl, rfl, rfl, by decide +kernel, rfl, by decide +kernel, by decide +kernel⟩
abbrev s_wakes_by : Stmt := topS 3
abbrev ns_wakes_by : List Str := ["plan", "turn"]
theorem sc_wakes_by : FnScope ns_wakes_by ["plan", "turn"] (defScope s_wakes_by) := ⟨rfl, rfl, rfl, by decide +kernel, rfl, by decide +kernel, by decide +kernel⟩
abbrev s_gap : Stmt := topS 4
abbrev ns_gap : List Str := ["plan", "other", "one", "two", "round_many", "both", "nexts", "turn", "ahead", "behind"]
theorem sc_gap : FnScope ns_gap ["plan", "other"] (defScope s_gap) := ⟨rfl, rfl, rfl, by decide +kernel, rfl, by decide +kernel, by decide +kernel⟩
abbrev s_lw_bag : Stmt := topS 6
abbrev ns_lw_bag : List Str := ["_law_script", "_law_cell"]
theorem sc_lw_bag : FnScope ns_lw_bag ["_law_script"] (defScope s_lw_bag) := ⟨rfl, rfl, rfl, by decide +kernel, rfl, by decide +kernel, by decide +kernel⟩
abbrev s_lw_take : Stmt := topS 7
abbrev ns_lw_take : List Str := ["_law_bag_here", "_law_many", "_law_cell", "_law_value", "_law_first", "_law_second"]
theorem sc_lw_take : FnScope ns_lw_take ["_law_bag_here", "_law_many"] (defScope s_lw_take) := ⟨rfl, rfl, rfl, by decide +kernel, rfl, by decide +kernel, by decide +kernel⟩
abbrev s_lw_plan : Stmt := topS 8
abbrev ns_lw_plan : List Str := ["_law_bag_here", "_law_size", "_law_rare", "_law_k"]
theorem sc_lw_plan : FnScope ns_lw_plan ["_law_bag_here"] (defScope s_lw_plan) := ⟨rfl, rfl, rfl, by decide +kernel, rfl, by decide +kernel, by decide +kernel⟩
abbrev s_lw_two : Stmt := topS 9
abbrev ns_lw_two : List Str := ["_law_bag_here", "_law_plan_here", "_law_other", "_law_twin"]
theorem sc_lw_two : FnScope ns_lw_two ["_law_bag_here"] (defScope s_lw_two) := ⟨rfl, rfl, rfl, by decide +kernel, rfl, by decide +kernel, by decide +kernel⟩
abbrev s_lw_both : Stmt := topS 10
abbrev ns_lw_both : List Str := ["_law_plan_here", "_law_other", "_law_many", "_law_k"]
theorem sc_lw_both : FnScope ns_lw_both ["_law_plan_here", "_law_other", "_law_many"] (defScope s_lw_both) := ⟨rfl, rfl, rfl, by decide +kernel, rfl, by decide +kernel, by decide +kernel⟩
abbrev s_lw_right : Stmt := topS 11
abbrev ns_lw_right : List Str := ["_law_bag_here", "_law_plan_here", "_law_other", "_law_around", "_law_both_here", "_law_due", "_law_found", "_law_start", "_law_span", "_law_longest", "_law_k", "_law_j"]
theorem sc_lw_right : FnScope ns_lw_right ["_law_bag_here", "_law_plan_here", "_law_other"] (defScope s_lw_right) := ⟨rfl, rfl, rfl, by decide +kernel, rfl, by decide +kernel, by decide +kernel⟩
abbrev s_law : Stmt := topS 12
abbrev ns_law : List Str := ["_law_script", "_law_bag_here", "_law_k", "_law_plan_here", "_law_other"]
theorem sc_law : FnScope ns_law ["_law_script"] (defScope s_law) := ⟨rfl, rfl, rfl, by decide +kernel, rfl, by decide +kernel, by decide +kernel⟩
structure Top (K : PySem.W.Frag) (mg : Str → Option Value) : Prop where
  n_abs : mg "abs" = none
  n_int : mg "int" = none
  n_isinstance : mg "isinstance" = none
  n_len : mg "len" = none
  n_max : mg "max" = none
  n_range : mg "range" = none
  n_repr : mg "repr" = none
  n_str : mg "str" = none
  n_zip : mg "zip" = none
  d_text_of : Df K mg "text_of" s_text_of ["thing"]
  d_wakes_by : Df K mg "wakes_by" s_wakes_by ["plan", "turn"]
  d_gap : Df K mg "gap" s_gap ["plan", "other"]
  d_lw_bag : Df K mg "_law_bag" s_lw_bag ["_law_script"]
  d_lw_take : Df K mg "_law_take" s_lw_take ["_law_bag_here", "_law_many"]
  d_lw_plan : Df K mg "_law_plan" s_lw_plan ["_law_bag_here"]
  d_lw_two : Df K mg "_law_two" s_lw_two ["_law_bag_here"]
  d_lw_both : Df K mg "_law_both" s_lw_both ["_law_plan_here", "_law_other", "_law_many"]
  d_lw_right : Df K mg "_law_right" s_lw_right ["_law_bag_here", "_law_plan_here", "_law_other"]
end K38
end
section
set_option Elab.async false
set_option linter.all false
set_option maxRecDepth 100000
set_option maxHeartbeats 4000000
namespace K38
local macro_rules | `(tactic| walk_at "pos") => `(tactic| (show (0 : Int) < _; first | decide | omega))
open PySem PySem.Spec PyProof.Rows L2 Lf 
open Evl
local macro_rules | `(tactic| walk_at "lk") => `(tactic| (simp (disch := decide +kernel) only [lk_hit, lk_miss, lk_nil]))
local macro_rules | `(tactic| walk_at "pf") => `(tactic| (simp (disch := decide +kernel) only [pf_hit, pf_miss, pf_nil]))
section
variable {P : Program} {w : World} {K : PySem.W.Frag} {mg : Str → Option Value} {base : Heap} (T : Top K mg )
include T
theorem c_lw_take : Cal P w K mg base CX0 1 "_law_take" spTk := by
  refine T.d_lw_take.cal sc_lw_take (fun vs H Q E h => ?_) (fun f cdv A outer s H vs Q E g hr h => ?_)
  · obtain ⟨b, many, rfl, _⟩ := h
    rfl
  · obtain ⟨⟨b, c⟩, many, rfl, ⟨x, y, z, ns, hb, hc, hx, ⟨hy, hy2⟩, hz, hn⟩, ⟨hm, hm2⟩, k⟩ := h
    refine ⟨_, (C8.pss_cut (ps_if (pt_cmpR op_eq (pe_ix (kix (K := K) (r := rIxL) ix_list rfl) (pv 0) pe_int (fun _ _ => rfl)) pe_int (nomark _)) (pss_cons (ps_set (i := 2) sc_lw_take.nd rfl (Or.inl rfl) pe_int)
        (C8.pss_cut (ps_if (pt_cmpR op_lt (pe_ix (kix (K := K) (r := rIxL) ix_list rfl) (pv 0) pe_int (fun _ _ => rfl)) (pe_callB (k_len (K := K) rfl) (by rfl) T.n_len PySem.boot_len (pa_cons (pe_ix (kix (K := K) (r := rIxL) ix_list rfl) (pv 0) pe_int (fun _ _ => rfl)) pa_nil)) (nomark _)) (pss_one (ps_set (i := 2) sc_lw_take.nd rfl (Or.inl rfl) (pe_ix (kix (K := K) (r := rIxL) ix_list rfl) (pe_ix (kix (K := K) (r := rIxL) ix_list rfl) (pv 0) pe_int (fun _ _ => rfl)) (pe_ix (kix (K := K) (r := rIxL) ix_list rfl) (pv 0) pe_int (fun _ _ => rfl)) (fun _ _ => rfl)))) pss_nil)
        (pss_cons (ps_augS (pv 0) pe_int get_list pe_int ip_add set_list)
        (C8.pss_cut (ps_if (pt_cmpR op_ge (pv 2) pe_int (nomark _)) (pss_one (ps_asg (pv 2) (pg_sub (pv 0) pe_int set_list))) pss_nil)
        (pss_one (ps_asg (pe_op op_mod (pe_op op_add (pe_op op_add (pe_op op_mul (pe_ix (kix (K := K) (r := rIxL) ix_list rfl) (pv 0) pe_int (fun _ _ => rfl)) pe_int) (pe_op op_mod (pv 2) pe_int)) (pe_op op_mul pe_int (pe_ix (kix (K := K) (r := rIxL) ix_list rfl) (pv 0) pe_int (fun _ _ => rfl)))) pe_int) (pg_sub (pv 0) pe_int set_list))))))) pss_nil)
    (pss_cons (ps_if (pt_cmpR op_gt (pe_ix (kix (K := K) (r := rIxL) ix_list rfl) (pv 0) pe_int (fun _ _ => rfl)) pe_int (nomark _)) (pss_cons (ps_set (i := 3) sc_lw_take.nd rfl (Or.inl rfl) (pe_op op_mod (pe_ix (kix (K := K) (r := rIxL) ix_list rfl) (pv 0) pe_int (fun _ _ => rfl)) (pv 1)))
        (pss_cons (ps_asg (pe_op op_fdivW (pe_ix (kix (K := K) (r := rIxL) ix_list rfl) (pv 0) pe_int (fun _ _ => rfl)) (pv 1)) (pg_sub (pv 0) pe_int set_list))
        (pss_one (ps_ret (pv 3))))) pss_nil)
    (pss_cons (ps_set (i := 4) sc_lw_take.nd rfl (Or.inl rfl) (pe_op op_mod (pe_op op_mul (pe_op op_add (pe_ix (kix (K := K) (r := rIxL) ix_list rfl) (pv 0) pe_int (fun _ _ => rfl)) pe_int) pe_int) pe_int))
    (pss_cons (ps_set (i := 5) sc_lw_take.nd rfl (Or.inl rfl) (pe_op op_mod (pe_op op_mul (pe_op op_mod (pe_op op_mul (pv 4) (pv 4)) pe_int) pe_int) pe_int))
    (pss_cons (ps_if (pt_cmpR op_gt (pv 1) pe_int (nomark _)) (pss_one (ps_ret (pe_op op_mod (pe_op op_add (pe_op op_mul (pv 5) pe_int) (pv 4)) (pv 1)))) pss_nil)
    (pss_one (ps_ret (pe_op op_mod (pe_op op_fdivW (pv 5) pe_int) (pv 1))))))))), ?_⟩
    have hb : H b = some (.lst [.int x, .int y, .int z, .ref c]) := hb
    have hc : H c = some (.lst (ns.map V.int)) := hc
    have k : ∀ v H', 0 ≤ v → v < many → Bag H' (b, c) → (∀ a, a ≠ b → H' a = H a) → Q (.int v) H' := k
    have ncb : c ≠ b := by
      rintro rfl
      rw [hb] at hc
      cases ns with
      | nil => cases hc
      | cons n1 ns => cases ns with
        | nil => cases hc
        | cons n2 ns => cases ns with
          | nil => cases hc
          | cons n3 ns => cases ns with
            | nil => cases hc
            | cons n4 ns => cases hc
    -- what stands behind the cell's taking
    refine ⟨fun σ H' => ∃ (o2 : Option V) (x y z : Int), σ = [some (.ref b), some (.int many), o2, none, none, none] ∧ 0 ≤ x ∧ (0 ≤ y ∧ y < 2147483647) ∧ 0 ≤ z ∧ H' b = some (.lst [.int x, .int y, .int z, .ref c]) ∧ (∀ a, a ≠ b → H' a = H a), ?_, ?_⟩
    · refine ⟨_, rfl, b, _, 0, _, rfl, rfl, SqL.of hb, rfl, rfl, _, rfl, ite2 (fun e => ?_) (fun e => ?_)⟩
      · -- cell = 0; if bag[2] < len(bag[3]): cell = bag[3][bag[2]]
        have ex : x = 0 := V.int.inj (of_decide_eq_true e)
        subst ex
        -- behind the cell's choice
        refine ⟨fun σ H' => H' = H ∧ ∃ cell : Int, 0 ≤ cell ∧ σ = [some (.ref b), some (.int many), some (.int cell), none, none, none], ?_, ?_⟩
        · refine ⟨_, rfl, b, _, 2, _, rfl, rfl, SqL.of hb, rfl, _, rfl, b, _, 3, _, rfl, rfl, SqL.of hb, rfl, c, _, rfl, .inl (SqL.of hc), _, _, rfl, rfl, _, rfl, ite2 (fun e => ?_) (fun e => ?_)⟩
          · have e0 : z < ns.length := by simpa using of_decide_eq_true e
            obtain ⟨n, rfl⟩ := Int.eq_ofNat_of_zero_le hz
            have hl : n < ns.length := by omega
            refine ⟨_, rfl, b, _, 3, _, rfl, rfl, SqL.of hb, rfl, _, rfl, b, _, 2, _, rfl, rfl, SqL.of hb, rfl, c, _, _, .int ns[n], rfl, rfl, SqL.of hc, atI_nat (by rw [List.getElem?_map, List.getElem?_eq_getElem hl]; rfl), rfl, ns[n], hn _ (List.getElem_mem hl), rfl⟩
          · exact ⟨rfl, 0, Int.le_refl _, rfl⟩
        · rintro σ H' ⟨rfl, cell, hcell, rfl⟩
          refine ⟨_, rfl, b, _, 2, _, rfl, rfl, SqL.of hb, rfl, _, _, rfl, rfl, b, _, 2, 2, rfl, rfl, hb, rfl, ?_⟩
          refine ⟨fun σ H2 => ∃ x : Int, 0 ≤ x ∧ σ = [some (.ref b), some (.int many), some (.int cell), none, none, none] ∧ H2 b = some (.lst [.int x, .int y, .int (z + 1), .ref c]) ∧ (∀ a, a ≠ b → H2 a = H' a), ?_, ?_⟩
          · refine ⟨_, rfl, _, _, rfl, rfl, _, rfl, ite2 (fun e => ?_) (fun e => ?_)⟩
            · refine ⟨_, rfl, _, rfl, b, _, 0, 0, rfl, rfl, upd_same, rfl, cell, hcell, rfl, upd_same, fun a ha => (upd_ne ha).trans (upd_ne ha)⟩
            · exact ⟨0, Int.le_refl _, rfl, upd_same, fun a ha => upd_ne ha⟩
          · rintro σ H2 ⟨x, hx, rfl, hb2, hs2⟩
            refine ⟨_, rfl, b, _, 1, _, rfl, rfl, SqL.of hb2, rfl, _, _, rfl, rfl, .inl (by omega), _, rfl, _, _, rfl, rfl, (by walk_at "pos"), _, _, rfl, rfl, ?_⟩
            refine ⟨_, rfl, b, _, 2, _, rfl, rfl, SqL.of hb2, rfl, _, _, rfl, rfl, .inl (by decide), _, _, rfl, rfl, _, _, rfl, rfl, (by walk_at "pos"), _, rfl, b, _, 1, 1, rfl, rfl, hb2, rfl, ?_⟩
            exact ⟨_, x, _, z + 1, rfl, hx, ⟨Int.emod_nonneg _ (by decide), Int.emod_lt_of_pos _ (by decide)⟩, by omega, upd_same, fun a ha => (upd_ne ha).trans (hs2 a ha)⟩
      · exact ⟨none, x, y, z, rfl, hx, ⟨hy, hy2⟩, hz, hb, fun _ _ => rfl⟩
    · rintro σ H' ⟨o2, x, y, z, rfl, hx, ⟨hy, hy2⟩, hz, hb, hs⟩
      have hc' : H' c = some (.lst (ns.map V.int)) := (hs c ncb).trans hc
      refine ⟨_, rfl, b, _, 0, _, rfl, rfl, SqL.of hb, rfl, _, _, rfl, rfl, _, rfl, ite2 (fun e => ?_) (fun e => ?_)⟩
      · have e0 : 0 < x := of_decide_eq_true e
        refine ⟨_, rfl, b, _, 0, _, rfl, rfl, SqL.of hb, rfl, _, rfl, _, _, rfl, rfl, hm, ?_⟩
        refine ⟨_, rfl, b, _, 0, _, rfl, rfl, SqL.of hb, rfl, _, rfl, _, _, rfl, rfl, divW hm hm2, ?_⟩
        refine ⟨_, rfl, b, _, 0, 0, rfl, rfl, hb, rfl, ?_⟩
        refine ⟨_, rfl, ?_⟩
        refine k _ _ (Int.emod_nonneg _ (by omega)) (Int.emod_lt_of_pos _ hm) ⟨x / many, y, z, ns, upd_same, (upd_ne ncb).trans hc', Int.ediv_nonneg hx (by omega), ⟨hy, hy2⟩, hz, hn⟩ (fun a ha => (upd_ne ha).trans (hs a ha))
      · -- the stirred number
        refine ⟨_, rfl, b, _, 1, _, rfl, rfl, SqL.of hb, rfl, _, _, rfl, rfl, _, _, rfl, rfl, .inl (by omega), _, _, rfl, rfl, (by walk_at "pos"), ?_⟩
        have f1 : 0 ≤ (y + 1) * 39373 % 1000000007 := Int.emod_nonneg _ (by decide)
        have f2 : (y + 1) * 39373 % 1000000007 < 1000000007 := Int.emod_lt_of_pos _ (by decide)
        generalize (y + 1) * 39373 % 1000000007 = p at *
        have g1 : 0 ≤ p * p % 998244353 := Int.emod_nonneg _ (by decide)
        have g2 : p * p % 998244353 < 998244353 := Int.emod_lt_of_pos _ (by decide)
        refine ⟨_, rfl, _, rfl, _, _, rfl, rfl, .inl (by omega), _, _, rfl, rfl, (by walk_at "pos"), _, _, rfl, rfl, .inl (by omega), _, _, rfl, rfl, (by walk_at "pos"), ?_⟩
        have s1 : 0 ≤ p * p % 998244353 * 30011 % 998244353 := Int.emod_nonneg _ (by decide)
        have s2 : p * p % 998244353 * 30011 % 998244353 < 998244353 := Int.emod_lt_of_pos _ (by decide)
        generalize p * p % 998244353 * 30011 % 998244353 = q at *
        have back : ∀ v : Int, 0 ≤ v → v < many → Q (.int v) H' := fun v h1 h2 => k v H' h1 h2 ⟨x, y, z, ns, hb, hc', hx, ⟨hy, hy2⟩, hz, hn⟩ hs
        refine ⟨_, rfl, _, _, rfl, rfl, _, rfl, ite2 (fun e => ?_) (fun e => ?_)⟩
        · refine ⟨_, rfl, _, _, rfl, rfl, .inl (by omega), _, rfl, _, _, rfl, rfl, _, rfl, _, _, rfl, rfl, hm, ?_⟩
          exact back _ (Int.emod_nonneg _ (by omega)) (Int.emod_lt_of_pos _ hm)
        · refine ⟨_, rfl, _, _, rfl, rfl, divW (by decide) (by decide), _, rfl, _, _, rfl, rfl, hm, ?_⟩
          exact back _ (Int.emod_nonneg _ (by omega)) (Int.emod_lt_of_pos _ hm)
end
end K38
end
section
set_option Elab.async false
set_option linter.all false
set_option maxRecDepth 100000
set_option maxHeartbeats 4000000
namespace K38
local macro_rules | `(tactic| walk_at "pos") => `(tactic| (show (0 : Int) < _; first | decide | omega))
open PySem PySem.Spec PyProof.Rows L2 Lf 
open Evl
local macro_rules | `(tactic| walk_at "lk") => `(tactic| (simp (disch := decide +kernel) only [lk_hit, lk_miss, lk_nil]))
local macro_rules | `(tactic| walk_at "pf") => `(tactic| (simp (disch := decide +kernel) only [pf_hit, pf_miss, pf_nil]))
section
variable {P : Program} {w : World} {K : PySem.W.Frag} {mg : Str → Option Value} {base : Heap} (T : Top K mg )
include T
theorem c_lw_bag : Cal P w K mg base CX0 1 "_law_bag" (spBag K) := by
  refine T.d_lw_bag.cal sc_lw_bag (fun vs H Q E h => ?_) (fun f cdv A outer s H vs Q E g hr h => ?_)
  · obtain ⟨a, ns, rfl, _⟩ := h
    rfl
  · obtain ⟨a, ns, rfl, hx, hl, k⟩ := h
    refine ⟨_, (pss_one (ps_ret (pe_lst (pa_cons pe_int (pa_cons pe_int (pa_cons pe_int (pa_cons (pe_lc (own := [("_law_cell", 1)]) (g := (gName 1)) (tt := tYes) (by rfl) sc_lw_bag.nd (k_list (K := K) rfl (pe_slice (ksl (K := K) (r := rSlL) sl_list rfl) (pv 0) po_none (po_some pe_int))) (blkOk_by (own := [("_law_cell", 1)]) (N := ns_lw_bag) (sc := defScope s_lw_bag) (by decide +kernel)) (fun _ _ _ _ _ => (pg_name (i := 1) sc_lw_bag.nd rfl (Or.inl rfl))) (fun _ _ _ _ _ => pts_nil) (fun _ _ _ _ _ => (pe_callB call_abs (by rfl) T.n_abs (by decide +kernel) (pa_cons (pv 1) pa_nil)))) pa_nil))))))), ?_⟩
    have cut : ∃ ms : List Int, cutV (ns.map V.int) none (some 63) = ms.map V.int ∧ ms.length ≤ 63 := by
      refine ⟨(ns.drop (HT.sIx (ns.map V.int).length 0 none)).take (HT.sIx (ns.map V.int).length (ns.map V.int).length (some 63) - HT.sIx (ns.map V.int).length 0 none), ?_, ?_⟩
      · unfold cutV
        rw [List.map_take, List.map_drop]
      · rw [List.length_take, List.length_drop]
        omega
    obtain ⟨ms, e1, hms⟩ := cut
    have sl : EvL (tSl (rSlL K) (tVar 0) tNoPart (tPart (tC (.int 63)))) [some (V.ref a), none] H (ms.map V.int) := by
      rw [← e1]
      exact el_sl (ev_var rfl) eo_none (eo_some ev_c) hx
    have lc := el_lcNL (K := K) (t := tYes) (te := tCB (fun xs H Q => ∃ i, xs = [V.int i] ∧ Q (.int (if i < 0 then -i else i)) H) (tCons (tVar 1) tNil)) (j := 1) (vs := [1]) (fun _ => true) (fun i => V.int (if ms.getD i 0 < 0 then -ms.getD i 0 else ms.getD i 0)) sl (by rw [List.length_map]; omega) (fun _ => rfl) (fun _ _ _ _ _ => yes_ok) (fun i x H1 e1 hi _ => by
      have hil : i < ms.length := by
        have := (List.getElem?_eq_some_iff.mp hi).1
        rw [List.length_map] at this
        exact this
      rw [getD_int hil] at hi
      cases hi
      exact ev_cb (ea_cons (ev_var rfl) ea_nil) (fun H2 e2 Q q => ⟨_, rfl, q H2 (Ex.refl _)⟩))
    rw [given_all] at lc
    refine s_retLst4 lc fun c H1 c0 e2 hc p hp => ?_
    refine k (p, c) _ (e2.trans (Ex.new hp)) (fresh_back e2 hp) ⟨0, 1234567891, 0, (List.range ms.length).map fun i => if ms.getD i 0 < 0 then -ms.getD i 0 else ms.getD i 0, upd_same, ?_, by decide, by decide, by decide, ?_⟩
    · rw [upd_ne (ne_of_none hc hp), hc, List.length_map, List.map_map]
      rfl
    · intro n hn
      obtain ⟨i, _, rfl⟩ := List.mem_map.mp hn
      split <;> omega
end
end K38
end
section
set_option Elab.async false
set_option linter.all false
set_option maxRecDepth 100000
set_option maxHeartbeats 4000000
namespace K38
local macro_rules | `(tactic| walk_at "pos") => `(tactic| (show (0 : Int) < _; first | decide | omega))
open PySem PySem.Spec PyProof.Rows L2 Lf 
open Evl
local macro_rules | `(tactic| walk_at "lk") => `(tactic| (simp (disch := decide +kernel) only [lk_hit, lk_miss, lk_nil]))
local macro_rules | `(tactic| walk_at "pf") => `(tactic| (simp (disch := decide +kernel) only [pf_hit, pf_miss, pf_nil]))
/-! gaps of two plans, in plain numbers -/
structure Per (wk : Nat → Bool) (A : Nat) : Prop where
  pos : 0 < A
  per : ∀ x, wk (x + A) = wk x
def Nx (wk : Nat → Bool) (a b : Nat) : Prop := a < b ∧ wk a = true ∧ wk b = true ∧ ∀ j, a < j → j < b → wk j = false
def IsGap (wk : Nat → Bool) (m : Nat) : Prop := (∃ a b, Nx wk a b ∧ b - a = m) ∧ ∀ a b, Nx wk a b → b - a ≤ m
theorem IsGap.uniq {wk : Nat → Bool} {m n : Nat} (h : IsGap wk m) (k : IsGap wk n) : m = n := by
  obtain ⟨⟨a, b, h1, rfl⟩, h2⟩ := h
  obtain ⟨⟨c, d, k1, rfl⟩, k2⟩ := k
  exact Nat.le_antisymm (k2 a b h1) (h2 c d k1)
section
variable {wk : Nat → Bool} {A : Nat}
theorem Per.mul (h : Per wk A) : ∀ (k x : Nat), wk (x + k * A) = wk x
  | 0, x => by rw [Nat.zero_mul, Nat.add_zero]
  | k + 1, x => by rw [Nat.add_mul, Nat.one_mul, ← Nat.add_assoc, h.per, h.mul k x]
theorem Per.mod (h : Per wk A) (x : Nat) : wk (x % A) = wk x := by
  conv => rhs; rw [← Nat.mod_add_div x A, Nat.mul_comm]
  rw [h.mul]
theorem Nx.down (h : Per wk A) {a b : Nat} (n : Nx wk a b) : Nx wk (a % A) (b - a / A * A) := by
  obtain ⟨h1, h2, h3, h4⟩ := n
  have e : a % A + a / A * A = a := by rw [Nat.mul_comm]; exact Nat.mod_add_div a A
  refine ⟨by omega, by rw [h.mod]; exact h2, ?_, fun j j1 j2 => ?_⟩
  · rw [← h.mul (a / A), Nat.sub_add_cancel (by omega)]
    exact h3
  · rw [← h.mul (a / A)]
    exact h4 _ (by omega) (by omega)
theorem Nx.far (h : Per wk A) {a b : Nat} (n : Nx wk a b) : b ≤ a + A := by
  obtain ⟨h1, h2, h3, h4⟩ := n
  have hA := h.pos
  refine Nat.le_of_not_lt fun z => ?_
  have := h4 (a + A) (by omega) z
  rw [h.per, h2] at this
  cases this
/-- one behind the other in what is left of a range -/
theorem range_next {n k : Nat} {a b : Nat} (ha : ((List.range n).filter wk)[k]? = some a) (hb : ((List.range n).filter wk)[k + 1]? = some b) : Nx wk a b ∧ b < n := by
  have hpw : ((List.range n).filter wk).Pairwise (· < ·) := List.pairwise_lt_range.filter _
  have hk := (List.getElem?_eq_some_iff.mp ha)
  have hk1 := (List.getElem?_eq_some_iff.mp hb)
  obtain ⟨hka, ea⟩ := hk
  obtain ⟨hkb, eb⟩ := hk1
  have pw := List.pairwise_iff_getElem.mp hpw
  have hlt := pw k (k + 1) hka hkb (by omega)
  rw [ea, eb] at hlt
  have ma := List.mem_filter.mp (List.mem_of_getElem? ha)
  have mb := List.mem_filter.mp (List.mem_of_getElem? hb)
  refine ⟨⟨hlt, ma.2, mb.2, fun j j1 j2 => ?_⟩, List.mem_range.mp mb.1⟩
  cases hj : wk j with
  | false => rfl
  | true =>
    have hm : j ∈ (List.range n).filter wk := List.mem_filter.mpr ⟨List.mem_range.mpr (by have := List.mem_range.mp mb.1; omega), hj⟩
    obtain ⟨i, hi, ei⟩ := List.getElem_of_mem hm
    rcases Nat.lt_or_ge i (k + 1) with z | z
    · have : i ≤ k := by omega
      rcases Nat.lt_or_eq_of_le this with y | y
      · have := pw i k hi hka y
        omega
      · subst y
        omega
    · rcases Nat.lt_or_eq_of_le z with y | y
      · have := pw (k + 1) i hkb hi y
        omega
      · subst y
        omega
theorem next_range {n : Nat} {a b : Nat} (h : Nx wk a b) (hb : b < n) : ∃ k, ((List.range n).filter wk)[k]? = some a ∧ ((List.range n).filter wk)[k + 1]? = some b := by
  obtain ⟨h1, h2, h3, h4⟩ := h
  have hpw : ((List.range n).filter wk).Pairwise (· < ·) := List.pairwise_lt_range.filter _
  have pw := List.pairwise_iff_getElem.mp hpw
  obtain ⟨k, hk, ek⟩ := List.getElem_of_mem (List.mem_filter.mpr ⟨List.mem_range.mpr (show a < n by omega), h2⟩)
  obtain ⟨i, hi, ei⟩ := List.getElem_of_mem (List.mem_filter.mpr ⟨List.mem_range.mpr hb, h3⟩)
  have hki : k < i := by
    rcases Nat.lt_or_ge k i with z | z
    · exact z
    · rcases Nat.lt_or_eq_of_le z with y | y
      · have := pw i k hi hk y
        omega
      · subst y
        omega
  have hk1 : k + 1 < ((List.range n).filter wk).length := by omega
  refine ⟨k, by rw [List.getElem?_eq_getElem hk, ek], ?_⟩
  rcases Nat.lt_or_eq_of_le (show k + 1 ≤ i by omega) with y | y
  · have l1 := pw k (k + 1) hk hk1 (by omega)
    have l2 := pw (k + 1) i hk1 hi y
    have hm := List.mem_filter.mp (List.getElem_mem hk1)
    have := h4 _ (by omega) (by omega : ((List.range n).filter wk)[k + 1] < b)
    rw [hm.2] at this
    cases this
  · subst y
    rw [List.getElem?_eq_getElem hi, ei]
theorem none_iff (h : Per wk A) {n : Nat} (hn : A ≤ n) : (List.range n).filter wk = [] ↔ ∀ x, wk x = false := by
  constructor
  · intro e x
    cases hx : wk x with
    | false => rfl
    | true =>
      have : x % A ∈ (List.range n).filter wk := List.mem_filter.mpr ⟨List.mem_range.mpr (by have := Nat.mod_lt x h.pos; omega), by rw [h.mod]; exact hx⟩
      rw [e] at this
      cases this
  · intro e
    exact List.filter_eq_nil_iff.mpr fun x _ z => by rw [e x] at z; cases z
/-- the greatest of the steps in two rounds and a bit -/
theorem gap_of_two (h : Per wk A) {m : Nat} (h1 : ∃ k a b, ((List.range (2 * A + 2)).filter wk)[k]? = some a ∧ ((List.range (2 * A + 2)).filter wk)[k + 1]? = some b ∧ b - a = m) (h2 : ∀ k a b, ((List.range (2 * A + 2)).filter wk)[k]? = some a → ((List.range (2 * A + 2)).filter wk)[k + 1]? = some b → b - a ≤ m) : IsGap wk m := by
  refine ⟨?_, fun a b n => ?_⟩
  · obtain ⟨k, a, b, k1, k2, k3⟩ := h1
    exact ⟨a, b, (range_next k1 k2).1, k3⟩
  · have d := n.down h
    have f := d.far h
    have hm := Nat.mod_lt a h.pos
    obtain ⟨k, k1, k2⟩ := next_range d (n := 2 * A + 2) (by omega)
    have := h2 k _ _ k1 k2
    have e : a % A + a / A * A = a := by rw [Nat.mul_comm]; exact Nat.mod_add_div a A
    have n1 := n.1
    omega
/-- the steps of one round, the last one to the first one of the next round -/
theorem gap_of_one (h : Per wk A) {m : Nat} {L : List Nat} (hL : L = (List.range A).filter wk) {f : Nat} (hf : L[0]? = some f)
    (h1 : (∃ k a b, L[k]? = some a ∧ L[k + 1]? = some b ∧ b - a = m) ∨ ∃ a, L[L.length - 1]? = some a ∧ f + A - a = m)
    (h2 : ∀ k a b, L[k]? = some a → L[k + 1]? = some b → b - a ≤ m) (h3 : ∀ a, L[L.length - 1]? = some a → f + A - a ≤ m) : IsGap wk m := by
  have hpw : L.Pairwise (· < ·) := by rw [hL]; exact List.pairwise_lt_range.filter _
  have pw := List.pairwise_iff_getElem.mp hpw
  have mem : ∀ x, x ∈ L ↔ x < A ∧ wk x = true := fun x => by rw [hL, List.mem_filter, List.mem_range]
  have fm := (mem f).mp (List.mem_of_getElem? hf)
  have first : ∀ x ∈ L, f ≤ x := fun x hx => by
    obtain ⟨i, hi, ei⟩ := List.getElem_of_mem hx
    obtain ⟨h0, e0⟩ := List.getElem?_eq_some_iff.mp hf
    rcases Nat.eq_zero_or_pos i with z | z
    · subst z; omega
    · have := pw 0 i h0 hi z; omega
  have last : ∀ a, L[L.length - 1]? = some a → ∀ x ∈ L, x ≤ a := fun a ha x hx => by
    obtain ⟨i, hi, ei⟩ := List.getElem_of_mem hx
    obtain ⟨h0, e0⟩ := List.getElem?_eq_some_iff.mp ha
    rcases Nat.lt_or_eq_of_le (show i ≤ L.length - 1 by omega) with z | z
    · have := pw i _ hi h0 z; omega
    · subst z; omega
  have wrap : ∀ a, L[L.length - 1]? = some a → Nx wk a (f + A) := fun a ha => by
    have am := (mem a).mp (List.mem_of_getElem? ha)
    refine ⟨by omega, am.2, by rw [h.per]; exact fm.2, fun j j1 j2 => ?_⟩
    cases hj : wk j with
    | false => rfl
    | true =>
      by_cases z : j < A
      · have := last a ha j ((mem j).mpr ⟨z, hj⟩); omega
      · have hj2 : wk (j - A) = true := by
          rw [← h.per, Nat.sub_add_cancel (by omega)]
          exact hj
        have := first (j - A) ((mem _).mpr ⟨by omega, hj2⟩)
        omega
  refine ⟨?_, fun a b n => ?_⟩
  · rcases h1 with ⟨k, a, b, k1, k2, k3⟩ | ⟨a, k1, k2⟩
    · rw [hL] at k1 k2
      exact ⟨a, b, (range_next k1 k2).1, k3⟩
    · exact ⟨a, f + A, wrap a k1, k2⟩
  · have d := n.down h
    have hm := Nat.mod_lt a h.pos
    have e : a % A + a / A * A = a := by rw [Nat.mul_comm]; exact Nat.mod_add_div a A
    have n1 := n.1
    have da := d.1
    -- what is next is what the list tells
    obtain ⟨i, hi, ei⟩ := List.getElem_of_mem ((mem _).mpr ⟨hm, d.2.1⟩)
    by_cases z : i + 1 < L.length
    · have hb := (mem _).mp (List.getElem_mem z)
      have hlt := pw i (i + 1) hi z (by omega)
      have : b - a / A * A ≤ L[i + 1] := Nat.le_of_not_lt fun y => by
        have := d.2.2.2 _ (by omega) y
        rw [hb.2] at this
        cases this
      have := h2 i _ _ (List.getElem?_eq_getElem hi) (List.getElem?_eq_getElem z)
      omega
    · have hl : L[L.length - 1]? = some (a % A) := by
        have : i = L.length - 1 := by omega
        rw [← this, List.getElem?_eq_getElem hi, ei]
      have w := wrap _ hl
      have : b - a / A * A ≤ f + A := Nat.le_of_not_lt fun y => by
        have := d.2.2.2 _ w.1 y
        rw [w.2.2.1] at this
        cases this
      have := h3 _ hl
      omega
/-- in as many turns as the gap there is one in which both wake -/
theorem gap_span (h : Per wk A) {m s : Nat} (g : IsGap wk m) (hs : s < A) : ∃ k, k < 2 * A + 2 ∧ wk k = true ∧ s ≤ k ∧ k < s + m := by
  obtain ⟨⟨a, b, n, _⟩, hmax⟩ := g
  -- the first one from s on
  have ex : ∃ y, s ≤ y ∧ y < s + A ∧ wk y = true := by
    have ha := h.mod a
    rw [n.2.1] at ha
    have hm := Nat.mod_lt a h.pos
    by_cases z : s ≤ a % A
    · exact ⟨a % A, z, by omega, ha⟩
    · exact ⟨a % A + A, by omega, by omega, by rw [h.per]; exact ha⟩
  have least : ∀ n : Nat, (∃ y, s ≤ y ∧ y < s + n ∧ wk y = true) → ∃ y, s ≤ y ∧ y < s + n ∧ wk y = true ∧ ∀ j, s ≤ j → j < y → wk j = false := by
    intro n
    induction n with
    | zero => rintro ⟨y, h1, h2, _⟩; omega
    | succ n ih =>
      rintro ⟨y, h1, h2, h3⟩
      by_cases z : ∃ y, s ≤ y ∧ y < s + n ∧ wk y = true
      · obtain ⟨y, k1, k2, k3, k4⟩ := ih z
        exact ⟨y, k1, by omega, k3, k4⟩
      · refine ⟨y, h1, h2, h3, fun j j1 j2 => ?_⟩
        cases hj : wk j with
        | false => rfl
        | true => exact absurd ⟨j, j1, by omega, hj⟩ z
  obtain ⟨y, y1, y2, y3, y4⟩ := least A ex
  by_cases z : y < s + m
  · exact ⟨y, by omega, y3, y1, z⟩
  · -- the last one before s + A
    have great : ∀ n : Nat, y + n < s + A → (∀ j, y + n < j → j < s + A → wk j = false) → ∃ x, y ≤ x ∧ x < s + A ∧ wk x = true ∧ ∀ j, x < j → j < s + A → wk j = false := by
      intro n
      induction n with
      | zero => exact fun k1 k2 => ⟨y, Nat.le_refl _, by omega, y3, by simpa using k2⟩
      | succ n ih =>
        intro k1 k2
        cases hx : wk (y + (n + 1)) with
        | true => exact ⟨y + (n + 1), by omega, k1, hx, k2⟩
        | false =>
          refine ih (by omega) fun j j1 j2 => ?_
          by_cases q : j = y + (n + 1)
          · rw [q]; exact hx
          · exact k2 j (by omega) j2
    obtain ⟨x, x1, x2, x3, x4⟩ := great (s + A - 1 - y) (by omega) fun j j1 j2 => by omega
    have nx : Nx wk x (y + A) := by
      refine ⟨by omega, x3, by rw [h.per]; exact y3, fun j j1 j2 => ?_⟩
      by_cases q : j < s + A
      · exact x4 j j1 q
      · have := y4 (j - A) (by omega) (by omega)
        rw [← h.per, Nat.sub_add_cancel (by omega)] at this
        exact this
    have := hmax x (y + A) nx
    omega
end
end K38
end
section
set_option Elab.async false
set_option linter.all false
set_option maxRecDepth 100000
set_option maxHeartbeats 4000000
namespace K38
local macro_rules | `(tactic| walk_at "pos") => `(tactic| (show (0 : Int) < _; first | decide | omega))
open PySem PySem.Spec PyProof.Rows L2 Lf 
open Evl
local macro_rules | `(tactic| walk_at "lk") => `(tactic| (simp (disch := decide +kernel) only [lk_hit, lk_miss, lk_nil]))
local macro_rules | `(tactic| walk_at "pf") => `(tactic| (simp (disch := decide +kernel) only [pf_hit, pf_miss, pf_nil]))
def wkc (z : Str) (k : Nat) : Bool := decide (V.str ⟨#[z.cps.toList.getD (k % z.length) 0]⟩ = V.str "w")
def bw (a b : Str) (k : Nat) : Bool := wkc a k && wkc b k
structure PlT (z : Str) : Prop where
  lo : 1 ≤ z.length
  hi : z.length ≤ 8
def ons (a b : Str) (n : Nat) : List Nat := (List.range n).filter (bw a b)
def GapV (wk : Nat → Bool) (v : V) : Prop := (v = .non ∧ ∀ x, wk x = false) ∨ ∃ m : Nat, v = .int m ∧ IsGap wk m
def spText : Sp := fun vs H Q _ => ∃ z : Str, vs = [.str z] ∧ z.length ≤ 1000 ∧ RetV (.str z) H Q
def spWakes : Sp := fun vs H Q _ => ∃ (z : Str) (k : Nat), vs = [.str z, .int k] ∧ PlT z ∧ RetV (.bl (wkc z k)) H Q
def spGap : Sp := fun vs H Q _ => ∃ a b : Str, vs = [.str a, .str b] ∧ PlT a ∧ PlT b ∧ ∀ v H', GapV (bw a b) v → Ex H H' → Q v H'
theorem PlT.at_ {z : Str} (h : PlT z) (k : Nat) : atI z.cps.toList (((k : Nat) : Int) % (z.length : Int)) = some (z.cps.toList.getD (k % z.length) 0) := by
  have h1 := h.lo
  have h2 : k % z.length < z.length := Nat.mod_lt _ (by omega)
  have h3 : z.cps.toList.length = z.length := by simp [Str.length]
  rw [← Int.natCast_emod]
  exact atI_nat (by rw [List.getElem?_eq_getElem (by omega), List.getD_eq_getElem?_getD, List.getElem?_eq_getElem (by omega)]; rfl)
theorem PlT.len {z : Str} (h : PlT z) : z.length ≤ sizeLine := Nat.le_trans h.hi (by decide)
theorem wkc_per {z : Str} (k j : Nat) : wkc z (k + j * z.length) = wkc z k := by
  unfold wkc
  rw [Nat.add_mul_mod_self_right]
theorem bw_per {a b : Str} (ha : PlT a) (hb : PlT b) : Per (bw a b) (a.length * b.length) := ⟨Nat.mul_pos ha.lo hb.lo, fun x => by
  unfold bw
  rw [wkc_per, Nat.mul_comm, wkc_per]⟩
theorem per_le {a b : Str} (ha : PlT a) (hb : PlT b) : a.length * b.length ≤ 64 := Nat.mul_le_mul ha.hi hb.hi
theorem bw_comm (a b : Str) : bw a b = bw b a := funext fun k => Bool.and_comm _ _
theorem join1 (z : Str) : Txt.join "" [z] = z := by
  show Builtin.Str.glued "" [z] = z
  rw [PySem.StrLaws.glued_eq_join]
  rfl
theorem ons_lt {a b : Str} {n k : Nat} (h : k ∈ ons a b n) : k < n := List.mem_range.mp (List.mem_filter.mp h).1
theorem ons_len (a b : Str) (n : Nat) : (ons a b n).length ≤ n := by
  have := List.length_filter_le (bw a b) (List.range n)
  rw [List.length_range] at this
  exact this
/-- the answer of one round's steps -/
theorem gap_ans {wk : Nat → Bool} {A : Nat} (hp : Per wk A) {L : List Nat} (hL : L = (List.range A).filter wk) {f : Nat} {r : List Nat} (e : L = f :: r) {m : Int}
    (h1 : ∃ i, i < L.length ∧ m = ((r ++ [f + A]).getD i 0 : Int) - (L.getD i 0 : Int)) (h2 : ∀ i, i < L.length → ((r ++ [f + A]).getD i 0 : Int) - (L.getD i 0 : Int) ≤ m) : ∃ n : Nat, m = (n : Int) ∧ IsGap wk n := by
  have hl : L.length = r.length + 1 := by rw [e]; rfl
  have nx : ∀ i, i + 1 < L.length → (r ++ [f + A]).getD i 0 = L.getD (i + 1) 0 := fun i hi => by
    rw [e, List.getD_eq_getElem?_getD, List.getD_eq_getElem?_getD, List.getElem?_append_left (by omega), List.getElem?_cons_succ]
  have la : (r ++ [f + A]).getD (L.length - 1) 0 = f + A := by
    rw [List.getD_eq_getElem?_getD, List.getElem?_append_right (by omega), hl]
    simp
  have gd : ∀ i, i < L.length → L[i]? = some (L.getD i 0) := fun i hi => by rw [List.getD_eq_getElem?_getD, List.getElem?_eq_getElem hi]; rfl
  have pw : L.Pairwise (· < ·) := by rw [hL]; exact List.pairwise_lt_range.filter _
  have lt : ∀ i, i + 1 < L.length → L.getD i 0 < L.getD (i + 1) 0 := fun i hi => by
    have := List.pairwise_iff_getElem.mp pw i (i + 1) (by omega) hi (by omega)
    rw [List.getD_eq_getElem?_getD, List.getD_eq_getElem?_getD, List.getElem?_eq_getElem (by omega), List.getElem?_eq_getElem hi]
    exact this
  have fl : L.getD 0 0 = f := by rw [e]; rfl
  have bnd : ∀ i, i < L.length → L.getD i 0 < A := fun i hi => by
    have := List.mem_of_getElem? (gd i hi)
    rw [hL] at this
    rw [hL]
    exact List.mem_range.mp (List.mem_filter.mp this).1
  obtain ⟨i, hi, em⟩ := h1
  have m0 : 0 ≤ m := by
    by_cases z : i + 1 < L.length
    · rw [nx i z] at em
      have := lt i z
      omega
    · have : i = L.length - 1 := by omega
      subst this
      rw [la] at em
      have := bnd _ hi
      omega
  obtain ⟨n, rfl⟩ := Int.eq_ofNat_of_zero_le m0
  refine ⟨n, rfl, gap_of_one hp hL (f := f) (by rw [gd 0 (by omega), fl]) ?_ (fun k a b ha hb => ?_) (fun a ha => ?_)⟩
  · by_cases z : i + 1 < L.length
    · refine .inl ⟨i, _, _, gd i hi, gd (i + 1) z, ?_⟩
      rw [nx i z] at em
      omega
    · have : i = L.length - 1 := by omega
      subst this
      rw [la] at em
      exact .inr ⟨_, gd _ hi, by omega⟩
  · have z := (List.getElem?_eq_some_iff.mp hb).1
    have := h2 k (by omega)
    rw [nx k z] at this
    rw [gd k (by omega)] at ha
    rw [gd (k + 1) z] at hb
    cases ha
    cases hb
    omega
  · have z := (List.getElem?_eq_some_iff.mp ha).1
    have := h2 _ z
    rw [la] at this
    rw [gd _ z] at ha
    cases ha
    omega
section
variable {K : PySem.W.Frag}
theorem el_star {σ : L2.St} {H : Hp} {te : TE} {tr : TA} {xs vs : List V} (h : EvL te σ H xs) (hr : EvA tr σ H vs) (hz : xs.length + vs.length ≤ 100000) : EvL (tLst (StX.tStar K te tr)) σ H (xs ++ vs) := fun H1 e Q q =>
  h H1 e _ fun p H2 p0 e2 hp => ⟨p, xs, rfl, .inr (sq_of hp), hr H2 (e.trans e2) _ fun H3 e3 => ⟨Nat.le_trans (by rw [List.length_append]; exact hz) (by decide), fun l hl => q l _ (fresh_back (e2.trans e3) hl) ((e2.trans e3).trans (Ex.new hl)) upd_same⟩⟩
theorem el_is2 {σ : L2.St} {H : Hp} {te : TE} {xs ys : List V} (h : EvL te σ H xs) (e : xs = ys) : EvL te σ H ys := e ▸ h
theorem s_retC1 {σ : L2.St} {H : Hp} {te : TE} {r : List V → Hp → VK → Prop} {xs : List V} {D : Ends} (h : EvL te σ H xs) (k : ∀ p H1, H p = none → Ex H H1 → H1 p = some (.lst xs) → r [.ref p] H1 D.rt) : tRet (tCB r (tCons te tNil)) D σ H := h H (Ex.refl _) _ fun p H1 p0 e hp => k p H1 p0 e hp
theorem ev_lenS {σ : L2.St} {H : Hp} {ta : TE} {z : Str} (h : Ev ta σ H (.str z)) (hz : z.length ≤ sizeLine) : Ev (tCB (fun xs H Q => ∃ z, xs = [V.str z] ∧ z.length ≤ sizeLine ∧ Q (.int z.length) H) (tCons ta tNil)) σ H (.int (z.length : Int)) := ev_cb (ea_cons h ea_nil) fun H1 e Q q => ⟨z, rfl, hz, q H1 (Ex.refl _)⟩
end
section
variable {P : Program} {w : World} {K : PySem.W.Frag} {mg : Str → Option Value} {base : Heap} (T : Top K mg )
include T
theorem c_text_of : Cal P w K mg base CX0 1 "text_of" spText := by
  refine T.d_text_of.cal sc_text_of (fun vs H Q E h => ?_) (fun f cdv A outer s H vs Q E g hr h => ?_)
  · obtain ⟨z, rfl, _⟩ := h
    rfl
  · obtain ⟨z, rfl, hz, k⟩ := h
    refine ⟨_, (pss_cons (ps_if (pt_not (pt_val (pe_callB (kcr (K := K) (r := rIsi) call_isi rfl) (by rfl) T.n_isinstance (by decide +kernel) (pa_cons (pv 0) (pa_cons (pe_bltn (v := .ty "str") (by rfl) T.n_str (by decide +kernel) rfl) pa_nil))))) (pss_one (ps_ret pe_non)) pss_nil)
    (pss_one (ps_ret (k_bm (K := K) rfl PySem.F.plainAttrs_str PySem.F.slot_str_join PySem.F.type_str_join mt_join pe_str (pa_cons (pe_lst (pa_cons (pv 0) pa_nil)) pa_nil))))), ?_⟩
    refine ⟨_, rfl, .str z, .ty "str", _, .type "str", true, rfl, .ty _, .base (.str z), kit_ty (by decide +kernel), true, rfl, iteF ?_⟩
    refine ⟨rfl, _, rfl, by show 1 ≤ sizeLine; decide, fun l hl => ⟨"", l, [z], rfl, rfl, .inl (sq_of upd_same), ?_, ?_⟩⟩
    · show z.length + 0 + 1 * 0 ≤ 16777216
      omega
    · rw [join1]
      exact k _ (Ex.new hl)
theorem c_wakes_by : Cal P w K mg base CX0 1 "wakes_by" spWakes := by
  refine T.d_wakes_by.cal sc_wakes_by (fun vs H Q E h => ?_) (fun f cdv A outer s H vs Q E g hr h => ?_)
  · obtain ⟨z, n, rfl, _⟩ := h
    rfl
  · obtain ⟨z, n, rfl, hz, k⟩ := h
    refine ⟨_, (pss_one (ps_ret (pe_cmpR op_eq (pe_ix ix_str (pv 0) (pe_op op_mod (pv 1) (pe_callB call_len_str (by rfl) T.n_len PySem.boot_len (pa_cons (pv 0) pa_nil))) (fun _ _ => rfl)) pe_str (nomark _)))), ?_⟩
    exact s_ret (ev_op (ev_op (ev_var rfl) (ev_op (ev_var rfl) (ev_lenS (ev_var rfl) hz.len) (rv_I (by have := hz.lo; omega))) (rv_ixS (Nat.le_trans hz.hi (by decide)) (hz.at_ n))) ev_c (rv_eq rfl)) fun H1 e1 => k H1 e1
theorem c_gap : Cal P w K mg base CX0 2 "gap" spGap := by
  refine T.d_gap.cal sc_gap (fun vs H Q E h => ?_) (fun f cdv A outer s H vs Q E g hr h => ?_)
  · obtain ⟨a, b, rfl, _⟩ := h
    rfl
  · obtain ⟨a, b, rfl, ha, hb, k⟩ := h
    refine ⟨_, (pss_cons (ps_asg (pe_tup (pa_cons (ec (c_text_of T) g hr (by decide) pass0 (by rfl) (pa_cons (pv 0) pa_nil)) (pa_cons (ec (c_text_of T) g hr (by decide) pass0 (by rfl) (pa_cons (pv 1) pa_nil)) pa_nil))) (k_gtup (K := K) rfl (by rfl) (pgs_cons (pg_name (i := 2) sc_gap.nd rfl (Or.inr rfl)) (pgs_cons (pg_name (i := 3) sc_gap.nd rfl (Or.inr rfl)) pgs_nil))))
    (pss_cons (ps_set (i := 4) sc_gap.nd rfl (Or.inl rfl) (pe_op op_mul (pe_callB call_len_str (by rfl) T.n_len PySem.boot_len (pa_cons (pv 2) pa_nil)) (pe_callB call_len_str (by rfl) T.n_len PySem.boot_len (pa_cons (pv 3) pa_nil))))
    (pss_cons (ps_setLc (i := 5) (own := [("turn", 7)]) (g := (gName 7)) (by rfl) sc_gap.nd rfl rfl (sw_true rfl rfl rfl (by decide +kernel)) (pi_range1 (by rfl) T.n_range (pa_cons (pv 4) pa_nil)) (blkOk_by (own := [("turn", 7)]) (N := ns_gap) (sc := defScope s_gap) (by decide +kernel)) (fun _ _ _ _ _ => (pg_name (i := 7) sc_gap.nd rfl (Or.inl rfl))) (fun _ _ _ _ _ => pts_one (PW.pt (pw_and (pt_val (ec (c_wakes_by T) g hr (by decide) pass0 (by rfl) (pa_cons (pv 2) (pa_cons (pv 7) pa_nil)))) (pw_and1 (pt_val (ec (c_wakes_by T) g hr (by decide) pass0 (by rfl) (pa_cons (pv 3) (pa_cons (pv 7) pa_nil)))))))) (fun _ _ _ _ _ => (pv 7)))
    (pss_cons (ps_if (pt_not (k_truth (K := K) rfl (pv 5) (by intro _; rfl))) (pss_one (ps_ret pe_non)) pss_nil)
    (pss_cons (ps_set (i := 6) sc_gap.nd rfl (Or.inl rfl) (pe_lst (StX.pa_star (pe_slice (ksl (K := K) (r := rSlL) sl_list rfl) (pv 5) (po_some pe_int) po_none) (pa_cons (pe_op op_add (pe_ix (kix (K := K) (r := rIxL) ix_list rfl) (pv 5) pe_int (fun _ _ => rfl)) (pv 4)) pa_nil))))
    (pss_one (ps_ret (pe_callB (kcr (K := K) (r := rMax) (cr_max rfl) rfl) (by rfl) T.n_max (by decide +kernel) (pa_cons (pe_lc (own := [("ahead", 8), ("behind", 9)]) (g := (gTup K 2 (gCons (gName 8) (gCons (gName 9) gNil)))) (tt := tYes) (by rfl) sc_gap.nd (k_zip (K := K) rfl (by rfl) T.n_zip (pa_cons (pv 5) (pa_cons (pv 6) pa_nil))) (blkOk_by (own := [("ahead", 8), ("behind", 9)]) (N := ns_gap) (sc := defScope s_gap) (by decide +kernel)) (fun _ _ _ _ _ => (k_gtup (K := K) rfl (by rfl) (pgs_cons (pg_name (i := 8) sc_gap.nd rfl (Or.inl rfl)) (pgs_cons (pg_name (i := 9) sc_gap.nd rfl (Or.inl rfl)) pgs_nil)))) (fun _ _ _ _ _ => pts_nil) (fun _ _ _ _ _ => (pe_op op_sub (pv 9) (pv 8)))) pa_nil))))))))), ?_⟩
    have tx : ∀ {z : Str} {σ : L2.St} {H1 : Hp} {j : Nat}, PlT z → σ[j]? = some (some (.str z)) → Ev (tCl spText E0 (tCons (tVar j) tNil)) σ H1 (.str z) := fun hz hj => ev_cl (ea_cons (ev_var hj) ea_nil) (fun H1 e Q q E => ⟨_, rfl, by have := hz.hi; omega, q⟩)
    refine q_asgUG (eu_tup (ea_cons (tx ha rfl) (ea_cons (tx hb rfl) ea_nil)) (by show 2 ≤ 100000; decide)) fun u H1 u0 e1 hu => ?_
    refine ⟨u, _, rfl, st_of hu, rfl, _, _, rfl, _, _, rfl, rfl, ?_⟩
    have hA := per_le ha hb
    have hP := bw_per ha hb
    have h1 := ha.hi
    have h2 := hb.hi
    refine q_asg (ev_is (ev_op (ev_lenS (ev_var rfl) ha.len) (ev_lenS (ev_var rfl) hb.len) (rv_I (C := CMul) (.inr ⟨by omega, by omega⟩))) (congrArg V.int (Int.natCast_mul _ _).symm)) fun H2 e2 => ?_
    generalize eA : a.length * b.length = A at *
    have wk : ∀ {z : Str} {σ : L2.St} {H1 : Hp} {i j n : Nat}, PlT z → σ[i]? = some (some (.str z)) → σ[j]? = some (some (.int (n : Int))) → Ev (tCl spWakes E0 (tCons (tVar i) (tCons (tVar j) tNil))) σ H1 (.bl (wkc z n)) := fun hz hi hj => ev_cl (ea_cons (ev_var hi) (ea_cons (ev_var hj) ea_nil)) (fun H1 e Q q E => ⟨_, _, rfl, hz, q⟩)
    refine q_asgL (el_lcR1 (fun n => bw a b n) (fun n => .int (n : Int)) (ea_cons (ev_var rfl) ea_nil) ⟨by omega, by omega⟩ (fun _ => rfl) (fun i H3 e3 hi => et_and (et_B (wk ha rfl rfl)) fun _ => et_B (wk hb rfl rfl)) (fun i H3 e3 hi _ => ev_var rfl)) fun l H3 l0 e3 hl => ?_
    have hl : H3 l = some (.lst (Wm.vN (ons a b A))) := hl
    have e13 := (e1.trans e2).trans e3
    refine q_when (et_not (et_tr (ev_var rfl) fun H4 e4 => sq_of (e4 _ _ hl))) (fun hc H4 e4 => ?_) (fun hc H4 e4 => ?_)
    · have hn : ons a b A = [] := by
        cases ho : ons a b A with
        | nil => rfl
        | cons x r => rw [ho] at hc; cases hc
      exact k .non H4 (.inl ⟨rfl, (none_iff hP (Nat.le_refl _)).mp hn⟩) (e13.trans e4)
    · obtain ⟨f, r, ho⟩ : ∃ f r, ons a b A = f :: r := by
        cases ho : ons a b A with
        | nil => rw [ho] at hc; cases hc
        | cons x r => exact ⟨x, r, rfl⟩
      have hl4 := e4 _ _ hl
      have hon := ons_len a b A
      refine q_asgL (xs := Wm.vN (r ++ [f + A])) (el_is2 (el_star (el_sl (ev_var rfl) (eo_some ev_c) eo_none (sq_of hl4)) (ea_cons (ev_op (ev_op (ev_var rfl) ev_c (rv_ixL (v := .int (f : Int)) (sq_of hl4) ?_)) (ev_var rfl) rv_I0) ea_nil) ?_) ?_) fun nl H5 n0 e5 hnl => ?_
      case _ => rw [ho]; exact atI_nat (j := 0) rfl
      case _ =>
        rw [Wm.cut1, List.length_drop, Wm.vN_len]
        show _ - 1 + 1 ≤ 100000
        omega
      case _ =>
        rw [Wm.cut1, ho]
        show Wm.vN r ++ _ = Wm.vN (r ++ _)
        unfold Wm.vN
        rw [List.map_append]
        rfl
      case _ =>
        have hl5 := e5 _ _ hl4
        have hlen : (ons a b A).length = r.length + 1 := by rw [ho]; rfl
        have hnn : (r ++ [f + A]).length = r.length + 1 := by rw [List.length_append]; rfl
        have e15 := (e13.trans e4).trans e5
        refine s_retC1 (Lf.el_mapZ (K := K) (σ := [some (V.str a), some (V.str b), some (V.str a), some (V.str b), some (V.int (A : Int)), some (V.ref l), some (V.ref nl), none, none, none]) (ta := tCons (tVar 5) (tCons (tVar 6) tNil)) (te := tOp (rI0 fun i j => V.int (i - j)) (tVar 9) (tVar 8)) (a := l) (H := H5) (j1 := 8) (j2 := 9) (n := (ons a b A).length) (vs := [8, 9]) (xs := Wm.vN (ons a b A)) (ys := Wm.vN (r ++ [f + A])) (fun i => V.int (((r ++ [f + A]).getD i 0 : Int) - ((ons a b A).getD i 0 : Int))) (fun H6 e6 Q' q' => ⟨_, rfl, _, rfl, q' nl H6 (Ex.refl _) (sq_of (e6 _ _ hnl))⟩) (sq_of hl5) ⟨by rw [Wm.vN_len]; exact Nat.le_refl _, by rw [Wm.vN_len]; omega, .inl (by rw [Wm.vN_len]; exact Nat.le_refl _)⟩ (by omega) (fun _ _ => rfl) (fun i x y H6 e6 hx hy => ?_)) fun p H7 p0 e7 hp => ?_
        · have hi : i < (ons a b A).length := by have := (List.getElem?_eq_some_iff.mp hx).1; rw [Wm.vN_len] at this; exact this
          have g1 : ∀ {ns : List Nat} {j : Nat} {x : V}, (Wm.vN ns)[j]? = some x → j < ns.length → x = .int (ns.getD j 0 : Int) := fun {ns j x} hx hj => by
            rw [Wm.vN_get (n := ns.getD j 0) (by rw [List.getD_eq_getElem?_getD, List.getElem?_eq_getElem hj]; rfl)] at hx
            exact (Option.some.inj hx).symm
          have ex := g1 hx hi
          have ey := g1 hy (by omega)
          subst ex ey
          exact ev_op (ev_var rfl) (ev_var rfl) rv_I0
        · refine ⟨p, (List.range (ons a b A).length).map fun i => ((r ++ [f + A]).getD i 0 : Int) - ((ons a b A).getD i 0 : Int), rfl, sq_of (by rw [hp, List.map_map]; rfl), by rw [List.length_map, List.length_range]; omega, fun m hm hmax => ?_⟩
          obtain ⟨i, hi, em⟩ := List.mem_map.mp hm
          obtain ⟨n, rfl, hg⟩ := gap_ans hP rfl ho (m := m) ⟨i, List.mem_range.mp hi, em.symm⟩ fun j hj => hmax _ (List.mem_map.mpr ⟨j, List.mem_range.mpr hj, rfl⟩)
          exact k _ H7 (.inr ⟨n, rfl, hg⟩) (e15.trans e7)
end
end K38
end
section
set_option Elab.async false
set_option linter.all false
set_option maxRecDepth 100000
set_option maxHeartbeats 4000000
namespace K38
local macro_rules | `(tactic| walk_at "pos") => `(tactic| (show (0 : Int) < _; first | decide | omega))
open PySem PySem.Spec PyProof.Rows L2 Lf 
open Evl
local macro_rules | `(tactic| walk_at "lk") => `(tactic| (simp (disch := decide +kernel) only [lk_hit, lk_miss, lk_nil]))
local macro_rules | `(tactic| walk_at "pf") => `(tactic| (simp (disch := decide +kernel) only [pf_hit, pf_miss, pf_nil]))
section
variable {K : PySem.W.Frag} {b : Addr × Addr} {σ : L2.St} {H : Hp}
/-- [e for .. in range(n)], e draws -/
theorem x_lcRD {n : Int} {ta : TA} {te : TE} {j : Nat} {vs : List Nat} {P : V → Prop} (hb : Bag H b) (h : EvA ta σ H [.int n]) (hn : 0 ≤ n ∧ n ≤ 1000)
    (hw : ∀ x, wipe ((wipe σ vs).set j (some x)) vs = wipe σ vs) (he : ∀ i H1, Step b H H1 → 0 ≤ i → i < n → Dr b te ((wipe σ vs).set j (some (.int i))) H1 P) :
    ∀ Q : VK, (∀ (l : Addr) (xs : List V) (H2 : Hp), Step b H H2 → H l = none → H2 l = some (.lst xs) → xs.length = n.toNat → (∀ v ∈ xs, P v) → Q (.ref l) H2) → tLc (iRng1 ta) (gName j) tYes te vs σ H Q := fun Q k => by
  refine h H (Ex.refl _) _ fun H1 e1 => ⟨n, rfl, by omega, by omega, fun D hD => ?_⟩
  have hb1 := hb.ex e1
  have hD0 := fresh_back e1 hD
  refine lc_range (lo := 0) (n := n.toNat) (fun i H2 => ∃ xs : List V, H2 D = some (.lst xs) ∧ Step b H H2 ∧ xs.length = i ∧ ∀ v ∈ xs, P v) ⟨[], upd_same, .pure hb (e1.trans (Ex.new hD)), rfl, fun _ h => by cases h⟩ ?_ ?_
  · rintro i H2 hi2 ⟨xs, g1, g2, g3, g4⟩
    refine ⟨hw _, ?_⟩
    refine (yes_ok : EvT tYes _ _ true) _ (Ex.refl _) _ fun H3 e3 => ?_
    rw [if_pos rfl]
    have s3 := g2.trans (.pure g2.1 e3)
    refine he _ H3 s3 (by omega) (by omega) H3 (.refl s3.1) _ fun v H4 s4 pv => ?_
    have nD := hb.ne hD0
    have g1' := s4.at nD (e3 _ _ g1)
    refine ⟨xs, g1', sz_lt (by omega), xs ++ [v], upd_same, (s3.trans s4).put hb hD0, by rw [List.length_append, g3]; rfl, fun x hx => ?_⟩
    rcases List.mem_append.mp hx with hx | hx
    · exact g4 x hx
    · rw [List.mem_singleton.mp hx]
      exact pv
  · rintro H2 ⟨xs, g1, g2, g3, g4⟩
    exact k D xs H2 g2 hD0 g1 g3 g4
theorem dri_geI {ta tc : TE} {p q : Int → Prop} (h1 : DrI b ta σ H p) (h2 : DrI b tc σ H q) : DrI b (tCB (fun xs H Q => (∃ i, xs = [V.int i] ∧ Q (.int i) H) ∨ ∃ k, xs = [V.bl k] ∧ Q (.int (if k then 1 else 0)) H) (tCons (tOp (rI0 fun i j => .bl (decide (j ≤ i))) ta tc) tNil)) σ H fun x => x = 0 ∨ x = 1 := fun H1 s Q k =>
  h1 H1 s _ fun i H2 s2 pi => h2 H2 (s.trans s2) _ fun j H3 s3 pj => ⟨i, j, rfl, rfl, .inr ⟨_, rfl, k _ H3 (s2.trans s3) (by split <;> omega)⟩⟩
def IsTx (n : Nat) (v : V) : Prop := ∃ z : Str, v = .str z ∧ z.length = n
theorem dr_ws {ti : TE} (h : DrI b ti σ H fun x => x = 0 ∨ x = 1) : Dr b (tOp rIxS (tC (.str "ws")) ti) σ H (IsTx 1) := fun H1 s Q k =>
  h H1 s _ fun i H2 s2 hi => by
    rcases hi with rfl | rfl
    · exact ⟨"ws", 0, 119, rfl, rfl, by decide, by decide, k _ H2 s2 ⟨_, rfl, rfl⟩⟩
    · exact ⟨"ws", 1, 115, rfl, rfl, by decide, by decide, k _ H2 s2 ⟨_, rfl, rfl⟩⟩
theorem txs_of : ∀ {xs : List V}, (∀ v ∈ xs, IsTx 1 v) → ∃ ys : List Str, xs = ys.map V.str ∧ ∀ y ∈ ys, y.length = 1
  | [], _ => ⟨[], rfl, fun _ h => by cases h⟩
  | x :: xs, h => by
    obtain ⟨ys, e, h1⟩ := txs_of fun v hv => h v (List.mem_cons_of_mem _ hv)
    obtain ⟨z, ez, hz⟩ := h x List.mem_cons_self
    exact ⟨z :: ys, by rw [e, ez]; rfl, fun y hy => by
      rcases List.mem_cons.mp hy with rfl | hy
      · exact hz
      · exact h1 y hy⟩
theorem join_len : ∀ {ys : List Str}, (∀ y ∈ ys, y.length = 1) → (Str.join "" ys).length = ys.length
  | [], _ => rfl
  | [x], h => h x List.mem_cons_self
  | x :: y :: r, h => by
    have ih := join_len (ys := y :: r) fun z hz => h z (List.mem_cons_of_mem _ hz)
    show (x ++ "" ++ Str.join "" (y :: r)).length = _
    rw [Str.length_append, Str.length_append, ih, h x List.mem_cons_self]
    show 1 + 0 + _ = _ + 1
    omega
theorem sum_ones : ∀ {ys : List Str}, (∀ y ∈ ys, y.length = 1) → (ys.map (·.length)).sum = ys.length
  | [], _ => rfl
  | x :: r, h => by
    rw [List.map_cons, List.sum_cons, sum_ones fun z hz => h z (List.mem_cons_of_mem _ hz), h x List.mem_cons_self, List.length_cons]
    omega
theorem cut_lo {z : Str} (h : 1 ≤ z.length) : (cutS z (some 1) none).length + (cutS z none (some 1)).length = z.length := by
  have e0 : z.cps.toList.length = z.length := by simp [Str.length]
  have e1 : HT.sIx z.length 0 (some 1) = min 1 z.length := HT.sIx_nat z.length 0 1
  have e2 : HT.sIx z.length z.length (some 1) = min 1 z.length := HT.sIx_nat z.length z.length 1
  have e3 : HT.sIx z.length 0 none = 0 := HT.sIx_none _ _
  have e4 : HT.sIx z.length z.length none = z.length := HT.sIx_none _ _
  unfold cutS
  rw [e1, e2, e3, e4]
  show (List.toArray _).size + (List.toArray _).size = _
  rw [List.size_toArray, List.size_toArray, List.length_take, List.length_take, List.length_drop, List.length_drop, e0]
  omega
theorem cut_hi {z : Str} {n : Nat} (h : n ≤ z.length) : (cutS z none (some (n : Int))).length = n := by
  have e0 : z.cps.toList.length = z.length := by simp [Str.length]
  have e2 : HT.sIx z.length z.length (some (n : Int)) = min n z.length := HT.sIx_nat z.length z.length n
  have e3 : HT.sIx z.length 0 none = 0 := HT.sIx_none _ _
  unfold cutS
  rw [e2, e3]
  show (List.toArray _).size = _
  rw [List.size_toArray, List.length_take, List.length_drop, e0]
  omega
theorem cut_any {z : Str} {n : Nat} (h : 1 ≤ z.length) (hn : 1 ≤ n) : 1 ≤ (cutS z none (some (n : Int))).length ∧ (cutS z none (some (n : Int))).length ≤ n := by
  have e0 : z.cps.toList.length = z.length := by simp [Str.length]
  have e2 : HT.sIx z.length z.length (some (n : Int)) = min n z.length := HT.sIx_nat z.length z.length n
  have e3 : HT.sIx z.length 0 none = 0 := HT.sIx_none _ _
  unfold cutS
  rw [e2, e3]
  show 1 ≤ (List.toArray _).size ∧ (List.toArray _).size ≤ n
  rw [List.size_toArray, List.length_take, List.length_drop, e0]
  omega
def IsPl (v : V) : Prop := ∃ z : Str, v = .str z ∧ PlT z
end
def spPlan : Sp := fun vs H Q _ => ∃ b : Addr × Addr, vs = [.ref b.1] ∧ Bag H b ∧ ∀ z H', PlT z → Step b H H' → Q (.str z) H'
def spTwo : Sp := fun vs H Q _ => ∃ b : Addr × Addr, vs = [.ref b.1] ∧ Bag H b ∧ ∀ u z y H', PlT z → PlT y → Step b H H' → H u = none → H' u = some (.tup [.str z, .str y]) → Q (.ref u) H'
def spBoth : Sp := fun vs H Q _ => ∃ (x y : Str) (n : Nat), vs = [.str x, .str y, .int n] ∧ PlT x ∧ PlT y ∧ n ≤ 1000 ∧ RetL (Wm.vN (ons x y n)) H Q
section
variable {P : Program} {w : World} {K : PySem.W.Frag} {mg : Str → Option Value} {base : Heap} (T : Top K mg )
include T
theorem c_lw_plan : Cal P w K mg base CX0 2 "_law_plan" spPlan := by
  refine T.d_lw_plan.cal sc_lw_plan (fun vs H Q E h => ?_) (fun f cdv A outer s H vs Q E g hr h => ?_)
  · obtain ⟨b, rfl, _⟩ := h
    rfl
  · obtain ⟨b, rfl, hb, k⟩ := h
    refine ⟨_, (pss_cons (ps_set (i := 1) sc_lw_plan.nd rfl (Or.inl rfl) (pe_ix (kix (K := K) (r := rIxL) ix_list rfl) (pe_lst (pa_cons pe_int (pa_cons pe_int (pa_cons (pe_op op_add pe_int (ec (c_lw_take T) g hr (by decide) pass0 (by rfl) (pa_cons (pv 0) (pa_cons pe_int pa_nil)))) (pa_cons pe_int pa_nil))))) (ec (c_lw_take T) g hr (by decide) pass0 (by rfl) (pa_cons (pv 0) (pa_cons pe_int pa_nil))) (fun _ _ => rfl)))
    (pss_cons (ps_set (i := 2) sc_lw_plan.nd rfl (Or.inr rfl) (pe_op op_add pe_int (ec (c_lw_take T) g hr (by decide) pass0 (by rfl) (pa_cons (pv 0) (pa_cons pe_int pa_nil)))))
    (pss_one (ps_ret (k_bm (K := K) rfl PySem.F.plainAttrs_str PySem.F.slot_str_join PySem.F.type_str_join mt_join pe_str (pa_cons (pe_lc (own := [("_law_k", 3)]) (g := (gName 3)) (tt := tYes) (by rfl) sc_lw_plan.nd (pi_range1 (by rfl) T.n_range (pa_cons (pv 1) pa_nil)) (blkOk_by (own := [("_law_k", 3)]) (N := ns_lw_plan) (sc := defScope s_lw_plan) (by decide +kernel)) (fun _ _ _ _ _ => (pg_name (i := 3) sc_lw_plan.nd rfl (Or.inl rfl))) (fun _ _ _ _ _ => pts_nil) (fun _ _ _ _ _ => (pe_ix ix_str pe_str (pe_callTy call_int1 (by rfl) T.n_int (by decide +kernel) (pa_cons (pe_cmpR op_ge (ec (c_lw_take T) g hr (by decide) pass0 (by rfl) (pa_cons (pv 0) (pa_cons pe_int pa_nil))) (pv 2) (nomark _)) pa_nil)) (fun _ _ => rfl)))) pa_nil)))))), ?_⟩
    refine q_dri (p := fun i => 1 ≤ i ∧ i ≤ 8) hb (dri_pick (n := 4) (dra_cons (DrI.dr (dri_c (by decide))) (dra_cons (DrI.dr (dri_c (by decide))) (dra_cons (DrI.dr (dri_I0 (p := fun i => i = 1) (dri_c rfl) (dri_tk rfl (by decide) (by decide)) (by intro i j hi hj; omega))) (dra_cons (DrI.dr (dri_c (by decide))) (dra_nil rfl))))) (dri_tk rfl (by decide) (by decide)) (by decide)) fun size H1 s1 hsz => ?_
    refine q_dri (p := fun _ => True) s1.1 (dri_I0 (p := fun _ => True) (q := fun _ => True) (dri_c trivial) ((dri_tk rfl (by decide) (by decide)).imp fun _ _ => trivial) (by intros; trivial)) fun rare H2 s2 _ => ?_
    refine ⟨rfl, ?_⟩
    have s12 := s1.trans s2
    refine x_lcRD (P := IsTx 1) s12.1 (ea_cons (ev_var rfl) ea_nil) ⟨by omega, by omega⟩ (fun _ => rfl) (fun i H3 s3 _ _ => dr_ws (dri_geI (q := fun _ => True) (dri_tk rfl (by decide) (by decide)) (dri_var rfl trivial))) _ fun l xs H3 s3 l0 hl hlen hP => ?_
    obtain ⟨ys, rfl, hy⟩ := txs_of hP
    rw [List.length_map] at hlen
    have hlen8 : ys.length ≤ 8 := by omega
    refine ⟨"", l, ys, rfl, rfl, .inl (sq_of hl), ?_, ?_⟩
    · rw [sum_ones hy]
      show ys.length + ys.length * 0 ≤ 16777216
      omega
    · have e : (Txt.join "" ys).length = ys.length := by
        show (Builtin.Str.glued "" ys).length = _
        rw [PySem.StrLaws.glued_eq_join, join_len hy]
      exact k _ H3 ⟨by rw [e]; omega, by rw [e]; omega⟩ (s12.trans s3)
theorem c_lw_both : Cal P w K mg base CX0 1 "_law_both" spBoth := by
  refine T.d_lw_both.cal sc_lw_both (fun vs H Q E h => ?_) (fun f cdv A outer s H vs Q E g hr h => ?_)
  · obtain ⟨x, y, n, rfl, _⟩ := h
    rfl
  · obtain ⟨x, y, n, rfl, hx, hy, hn, k⟩ := h
    refine ⟨_, (pss_one (ps_ret (pe_lc (own := [("_law_k", 3)]) (g := (gName 3)) (by rfl) sc_lw_both.nd (pi_range1 (by rfl) T.n_range (pa_cons (pv 2) pa_nil)) (blkOk_by (own := [("_law_k", 3)]) (N := ns_lw_both) (sc := defScope s_lw_both) (by decide +kernel)) (fun _ _ _ _ _ => (pg_name (i := 3) sc_lw_both.nd rfl (Or.inl rfl))) (fun _ _ _ _ _ => pts_one (PW.pt (pw_and (pt_cmpR op_eq (pe_ix ix_str (pv 0) (pe_op op_mod (pv 3) (pe_callB call_len_str (by rfl) T.n_len PySem.boot_len (pa_cons (pv 0) pa_nil))) (fun _ _ => rfl)) pe_str (nomark _)) (pw_and1 (pt_cmpR op_eq (pe_ix ix_str (pv 1) (pe_op op_mod (pv 3) (pe_callB call_len_str (by rfl) T.n_len PySem.boot_len (pa_cons (pv 1) pa_nil))) (fun _ _ => rfl)) pe_str (nomark _)))))) (fun _ _ _ _ _ => (pv 3))))), ?_⟩
    have tw : ∀ {z : Str} {σ : L2.St} {H1 : Hp} {i j n : Nat}, PlT z → σ[i]? = some (some (.str z)) → σ[j]? = some (some (.int (n : Int))) → Ev (tOp rEq (tOp rIxS (tVar i) (tOp (rI (fun _ j => 0 < j) fun i j => .int (i % j)) (tVar j) (tCB (fun xs H Q => ∃ z, xs = [V.str z] ∧ z.length ≤ sizeLine ∧ Q (.int z.length) H) (tCons (tVar i) tNil)))) (tC (.str "w"))) σ H1 (.bl (wkc z n)) := fun {z σ H1 i j n} hz hi hj => ev_op (ev_op (ev_var hi) (ev_op (ev_var hj) (ev_lenS (ev_var hi) hz.len) (rv_I (C := fun _ j => 0 < j) (by have := hz.lo; omega))) (rv_ixS (Nat.le_trans hz.hi (by decide)) (hz.at_ n))) ev_c (rv_eq rfl)
    exact s_retL (el_lcR1 (fun n => bw x y n) (fun n => .int (n : Int)) (ea_cons (ev_var rfl) ea_nil) ⟨by omega, by omega⟩ (fun _ => rfl) (fun i H3 e3 hi => et_and (et_test (tw hx rfl rfl)) fun _ => et_test (tw hy rfl rfl)) (fun i H3 e3 hi _ => ev_var rfl)) fun p H1 p0 e1 hp => k p H1 p0 e1 hp
theorem c_lw_two : Cal P w K mg base CX0 3 "_law_two" spTwo := by
  refine T.d_lw_two.cal sc_lw_two (fun vs H Q E h => ?_) (fun f cdv A outer s H vs Q E g hr h => ?_)
  · obtain ⟨b, rfl, _⟩ := h
    rfl
  · obtain ⟨b, rfl, hb, k⟩ := h
    refine ⟨_, (pss_cons (ps_set (i := 1) sc_lw_two.nd rfl (Or.inl rfl) (ec (c_lw_plan T) g hr (by decide) pass0 (by rfl) (pa_cons (pv 0) pa_nil)))
    (pss_cons (ps_set (i := 2) sc_lw_two.nd rfl (Or.inl rfl) (ec (c_lw_plan T) g hr (by decide) pass0 (by rfl) (pa_cons (pv 0) pa_nil)))
    (pss_cons (ps_set (i := 3) sc_lw_two.nd rfl (Or.inl rfl) (pe_ix (kix (K := K) (r := rIxL) ix_list rfl) (pe_lst (pa_cons (pv 1) (pa_cons (k_revS (pv 1)) (pa_cons (pe_op op_add_str (pe_slice sl_str (pv 1) (po_some pe_int) po_none) (pe_slice sl_str (pv 1) po_none (po_some pe_int))) (pa_cons (pe_slice sl_str (pe_op op_add_str (pv 1) (pv 1)) po_none (po_some pe_int)) (pa_cons (pe_op op_repS pe_str (pe_callB call_len_str (by rfl) T.n_len PySem.boot_len (pa_cons (pv 1) pa_nil))) (pa_cons pe_str pa_nil))))))) (ec (c_lw_take T) g hr (by decide) pass0 (by rfl) (pa_cons (pv 0) (pa_cons pe_int pa_nil))) (fun _ _ => rfl)))
    (pss_one (ps_ret (pe_tup (pa_cons (pv 1) (pa_cons (pe_ix (kix (K := K) (r := rIxL) ix_list rfl) (pe_lst (pa_cons (pv 2) (pa_cons (pv 3) pa_nil))) (ec (c_lw_take T) g hr (by decide) pass0 (by rfl) (pa_cons (pv 0) (pa_cons pe_int pa_nil))) (fun _ _ => rfl)) pa_nil)))))))), ?_⟩
    refine ⟨_, rfl, b, rfl, hb, fun z H1 hz s1 => ?_⟩
    refine ⟨_, rfl, b, rfl, s1.1, fun y H2 hy s2 => ?_⟩
    have s12 := s1.trans s2
    have z1 := hz.lo
    have z8 := hz.hi
    have pv : ∀ {σ : L2.St} {H1 : Hp} {j : Nat} {z : Str}, PlT z → σ[j]? = some (some (.str z)) → Dr b (tVar j) σ H1 IsPl := fun {σ H1 j z} hz hj H2 s Q k => ⟨_, hj, k _ H2 (.refl s.1) ⟨z, rfl, hz⟩⟩
    refine q_dr (P := IsPl) s12.1 (dr_pick (n := 6) (dra_cons (pv hz rfl) (dra_cons (fun H2 s Q k => ⟨_, rfl, z, rfl, by omega, fun r hr => k _ H2 (.refl s.1) ⟨r, rfl, ⟨by omega, by omega⟩⟩⟩) (dra_cons ?a (dra_cons ?b (dra_cons ?c (dra_cons (fun H2 s Q k => k _ H2 (.refl s.1) ⟨_, rfl, by decide, by decide⟩) (dra_nil rfl))))))) (dri_tk rfl (by decide) (by decide)) (by decide)) fun v H3 s3 hv => ?_
    case a =>
      intro H3 s Q k
      have e := cut_lo (z := z) z1
      exact ⟨.str z, rfl, 1, rfl, z, rfl, hz.len, .str z, rfl, 1, rfl, z, rfl, hz.len, _, _, rfl, rfl, by rw [e]; exact hz.len, k _ H3 (.refl s.1) ⟨_, rfl, ⟨by rw [Str.length_append, e]; omega, by rw [Str.length_append, e]; omega⟩⟩⟩
    case b =>
      intro H3 s Q k
      have e : (z ++ z).length = z.length + z.length := Str.length_append _ _
      have h16 : z.length + z.length ≤ 16 := by omega
      have h1 := cut_any (z := z ++ z) (n := 8) (by rw [e]; omega) (by decide)
      exact ⟨.str z, rfl, .str z, rfl, z, z, rfl, rfl, Nat.le_trans h16 (by decide), 8, rfl, z ++ z, rfl, by rw [e]; exact Nat.le_trans h16 (by decide), k _ H3 (.refl s.1) ⟨_, rfl, ⟨h1.1, h1.2⟩⟩⟩
    case c =>
      intro H3 s Q k
      exact ⟨.str z, rfl, z, rfl, hz.len, "s", z.length, rfl, rfl, by omega, by omega, by decide, fun r hr => k _ H3 (.refl s.1) ⟨r, rfl, by
        have : r.length = 1 * z.length := hr
        exact ⟨by omega, by omega⟩⟩⟩
    obtain ⟨v, rfl, hv⟩ := hv
    have s123 := s12.trans s3
    refine ⟨.str z, rfl, dr_pick (K := K) (P := IsPl) (n := 2) (dra_cons (pv hy rfl) (dra_cons (pv hv rfl) (dra_nil rfl))) (dri_tk rfl (by decide) (by decide)) (by decide) H3 (.refl s3.1) _ fun q H4 s4 hq => ?_⟩
    obtain ⟨q, rfl, hq⟩ := hq
    exact ⟨by show 2 ≤ sizeLine; decide, fun u hu => k u z q _ hz hq ((s123.trans s4).trans (.pure s4.1 (Ex.new hu))) ((s123.trans s4).free hu) upd_same⟩
end
end K38
end
section
set_option Elab.async false
set_option linter.all false
set_option maxRecDepth 100000
set_option maxHeartbeats 4000000
namespace K38
local macro_rules | `(tactic| walk_at "pos") => `(tactic| (show (0 : Int) < _; first | decide | omega))
open PySem PySem.Spec PyProof.Rows L2 Lf 
open Evl
local macro_rules | `(tactic| walk_at "lk") => `(tactic| (simp (disch := decide +kernel) only [lk_hit, lk_miss, lk_nil]))
local macro_rules | `(tactic| walk_at "pf") => `(tactic| (simp (disch := decide +kernel) only [pf_hit, pf_miss, pf_nil]))
theorem GapV.uniq {wk : Nat → Bool} {v u : V} (h : GapV wk v) (k : GapV wk u) : v = u := by
  rcases h with ⟨rfl, h⟩ | ⟨m, rfl, h⟩
  · rcases k with ⟨rfl, _⟩ | ⟨n, rfl, k⟩
    · rfl
    · obtain ⟨⟨a, b, n, _⟩, _⟩ := k
      have := n.2.1
      rw [h] at this
      cases this
  · rcases k with ⟨rfl, k⟩ | ⟨n, rfl, k⟩
    · obtain ⟨⟨a, b, n, _⟩, _⟩ := h
      have := n.2.1
      rw [k] at this
      cases this
    · rw [h.uniq k]
theorem IsGap.le {wk : Nat → Bool} {A m : Nat} (hp : Per wk A) (h : IsGap wk m) : 1 ≤ m ∧ m ≤ A := by
  obtain ⟨⟨a, b, n, e⟩, _⟩ := h
  have := n.far hp
  have := n.1
  omega
theorem GapV.dp {wk : Nat → Bool} {A : Nat} {v : V} (hp : Per wk A) (hA : A ≤ 1000) (h : GapV wk v) : ∃ d, (∀ (K : PySem.W.Frag) (H : Hp), Dp K H v d) ∧ Wm.Rep 60 1000000 d := by
  rcases h with ⟨rfl, _⟩ | ⟨m, rfl, h⟩
  · exact ⟨.none, fun _ _ => .non, Wm.Rep.non.mono (by decide) (by decide)⟩
  · have := (h.le hp).2
    exact ⟨.int m, fun _ _ => .int _, (Wm.Rep.int (Nat.lt_of_le_of_lt (show (m : Int).natAbs ≤ 1000 by omega) (by decide))).mono (by decide) (by decide)⟩
theorem ons_two {a b : Str} {A : Nat} (hp : Per (bw a b) A) {f : Nat} {r : List Nat} (e : ons a b (2 * A + 2) = f :: r) : 2 ≤ (ons a b (2 * A + 2)).length := by
  have hf : f ∈ ons a b (2 * A + 2) := by rw [e]; exact List.mem_cons_self
  have hw := (List.mem_filter.mp hf).2
  have hm := Nat.mod_lt f hp.pos
  have m1 : f % A ∈ ons a b (2 * A + 2) := List.mem_filter.mpr ⟨List.mem_range.mpr (by omega), by rw [hp.mod]; exact hw⟩
  have m2 : f % A + A ∈ ons a b (2 * A + 2) := List.mem_filter.mpr ⟨List.mem_range.mpr (by omega), by rw [hp.per, hp.mod]; exact hw⟩
  have hpos := hp.pos
  cases r with
  | nil =>
    rw [e] at m1 m2
    have h1 := List.mem_singleton.mp m1
    have h2 := List.mem_singleton.mp m2
    omega
  | cons x r => rw [e, List.length_cons, List.length_cons]; omega
/-- the greatest step between two in the two rounds -/
theorem two_ans {wk : Nat → Bool} {A : Nat} (hp : Per wk A) {L : List Nat} (hL : L = (List.range (2 * A + 2)).filter wk) {m : Int}
    (h1 : ∃ i, i < L.length - 1 ∧ m = (L.getD (i + 1) 0 : Int) - (L.getD i 0 : Int)) (h2 : ∀ i, i < L.length - 1 → (L.getD (i + 1) 0 : Int) - (L.getD i 0 : Int) ≤ m) : ∃ n : Nat, m = (n : Int) ∧ IsGap wk n := by
  have gd : ∀ i, i < L.length → L[i]? = some (L.getD i 0) := fun i hi => by rw [List.getD_eq_getElem?_getD, List.getElem?_eq_getElem hi]; rfl
  have pw : L.Pairwise (· < ·) := by rw [hL]; exact List.pairwise_lt_range.filter _
  have lt : ∀ i, i + 1 < L.length → L.getD i 0 < L.getD (i + 1) 0 := fun i hi => by
    have := List.pairwise_iff_getElem.mp pw i (i + 1) (by omega) hi (by omega)
    rw [List.getD_eq_getElem?_getD, List.getD_eq_getElem?_getD, List.getElem?_eq_getElem (by omega), List.getElem?_eq_getElem hi]
    exact this
  obtain ⟨i, hi, em⟩ := h1
  have := lt i (by omega)
  obtain ⟨n, rfl⟩ := Int.eq_ofNat_of_zero_le (show 0 ≤ m by omega)
  refine ⟨n, rfl, gap_of_two hp ⟨i, _, _, by rw [← hL]; exact gd i (by omega), by rw [← hL]; exact gd (i + 1) (by omega), by omega⟩ fun k a b ha hb => ?_⟩
  rw [← hL] at ha hb
  have z := (List.getElem?_eq_some_iff.mp hb).1
  have := h2 k (by omega)
  rw [gd k (by omega)] at ha
  rw [gd (k + 1) z] at hb
  cases ha
  cases hb
  omega
/-- some turn whose next one is as far as the gap -/
theorem gap_there {wk : Nat → Bool} {A m : Nat} (hp : Per wk A) (h : IsGap wk m) : ∃ k ∈ (List.range (2 * A + 2)).filter wk, k + m ∈ (List.range (2 * A + 2)).filter wk ∧ (List.range (2 * A + 2)).filter (fun j => wk j && (decide (k < j) && decide (j < k + m))) = [] := by
  obtain ⟨⟨a, b, n, e⟩, _⟩ := h
  have d := n.down hp
  have hf := n.far hp
  have hm := Nat.mod_lt a hp.pos
  have e2 : a % A + a / A * A = a := by rw [Nat.mul_comm]; exact Nat.mod_add_div a A
  have e3 : b - a / A * A = a % A + m := by have := n.1; omega
  rw [e3] at d
  refine ⟨a % A, List.mem_filter.mpr ⟨List.mem_range.mpr (by omega), d.2.1⟩, List.mem_filter.mpr ⟨List.mem_range.mpr (by omega), d.2.2.1⟩, List.filter_eq_nil_iff.mpr fun j _ z => ?_⟩
  have z1 := Bool.and_eq_true_iff.mp z
  have z2 := Bool.and_eq_true_iff.mp z1.2
  have := d.2.2.2 j (of_decide_eq_true z2.1) (of_decide_eq_true z2.2)
  rw [z1.1] at this
  cases this
section
variable {K : PySem.W.Frag} {σ : L2.St} {H : Hp}
theorem el_lcN {a : Addr} {L : List Nat} {tl te : TE} {tt : TT} {j : Nat} {vs : List Nat} (p : Nat → Bool) (h : Ev tl σ H (.ref a)) (hx : SqL K H a (Wm.vN L)) (hz : L.length ≤ 40000) (hw : ∀ x, wipe ((wipe σ vs).set j (some x)) vs = wipe σ vs)
    (ht : ∀ (n : Nat) H1, Ex H H1 → n ∈ L → EvT tt ((wipe σ vs).set j (some (.int (n : Int)))) H1 (p n)) (he : ∀ (n : Nat) H1, Ex H H1 → n ∈ L → p n = true → Ev te ((wipe σ vs).set j (some (.int (n : Int)))) H1 (.int (n : Int))) :
    EvL (tLc (iList K tl) (gName j) tt te vs) σ H (Wm.vN (L.filter p)) := by
  have key := Wm.given_gen L p (fun n => V.int (n : Int))
  rw [← Wm.vN_len L] at key
  have at_ : ∀ (i : Nat) (x : V), (Wm.vN L)[i]? = some x → x = .int (L.getD i 0 : Int) ∧ L.getD i 0 ∈ L := fun i x hx => by
    have hi : i < L.length := by have := (List.getElem?_eq_some_iff.mp hx).1; rw [Wm.vN_len] at this; exact this
    have e : L[i]? = some (L.getD i 0) := by rw [List.getD_eq_getElem?_getD, List.getElem?_eq_getElem hi]; rfl
    rw [Wm.vN_get e] at hx
    exact ⟨(Option.some.inj hx).symm, List.mem_of_getElem? e⟩
  show EvL _ _ _ ((L.filter p).map fun n : Nat => V.int (n : Int))
  rw [← key]
  refine el_lcL (fun i => p (L.getD i 0)) (fun i => V.int (L.getD i 0 : Int)) h hx (by rw [Wm.vN_len]; exact hz) hw (fun i x H1 e1 hi => ?_) (fun i x H1 e1 hi hp => ?_)
  · obtain ⟨rfl, hm⟩ := at_ i x hi
    exact ht _ H1 e1 hm
  · obtain ⟨rfl, hm⟩ := at_ i x hi
    exact he _ H1 e1 hm hp
theorem ev_neNil {l : Addr} {L : List Nat} {te : TE} (h : Ev te σ H (.ref l)) (hl : SqL K H l (Wm.vN L)) : Ev (tOp (rNeD K) te (tLst tNil)) σ H (.bl (!L.isEmpty)) := by
  refine ev_is (ev_opL h (el_lst ea_nil (Nat.zero_le _)) fun p' H4 hp' e4 => rv_neD2 (.lst (ex_l e4 hl) (Wm.vN_dps L)) (.lst (sq_of hp') .nil) (Wm.Sh.list (n := 0) fun d hd => ?_) (Wm.Sh.list (n := 0) fun d hd => by cases hd) (by decide) (by decide)) (by cases L <;> rfl)
  obtain ⟨n, _, rfl⟩ := List.mem_map.mp hd
  exact Wm.Sh.int _
theorem ev_neNilL {L : List Nat} {te : TE} (h : EvL te σ H (Wm.vN L)) : Ev (tOp (rNeD K) te (tLst tNil)) σ H (.bl (!L.isEmpty)) := by
  refine ev_is (ev_opLL h (el_lst ea_nil (Nat.zero_le _)) fun p' q' H4 hp' hq' e4 => rv_neD2 (.lst (sq_of hp') (Wm.vN_dps L)) (.lst (sq_of hq') .nil) (Wm.Sh.list (n := 0) fun d hd => ?_) (Wm.Sh.list (n := 0) fun d hd => by cases hd) (by decide) (by decide)) (by cases L <;> rfl)
  obtain ⟨n, _, rfl⟩ := List.mem_map.mp hd
  exact Wm.Sh.int _
theorem s_asgC1 {te : TE} {r : List V → Hp → VK → Prop} {xs : List V} {D : Ends} {i : Nat} (h : EvL te σ H xs) (k : ∀ p H1, H p = none → Ex H H1 → H1 p = some (.lst xs) → r [.ref p] H1 fun v H2 => D.nx (σ.set i (some v)) H2) : tAsg (tCB r (tCons te tNil)) (gName i) D σ H := h H (Ex.refl _) _ fun p H1 p0 e hp => k p H1 p0 e hp
theorem ev_gap {E : XK} {x y : Str} {ta tb : TE} {v : V} (hx : PlT x) (hy : PlT y) (h1 : Ev ta σ H (.str x)) (h2 : Ev tb σ H (.str y)) (hv : GapV (bw x y) v) : Ev (tCl spGap E (tCons ta (tCons tb tNil))) σ H v := ev_cl (ea_cons h1 (ea_cons h2 ea_nil)) fun H1 e1 Q q E => ⟨x, y, rfl, hx, hy, fun u H2 hu e2 => by rw [hu.uniq hv]; exact q H2 e2⟩
end
def spRight : Sp := fun vs H Q _ => ∃ (b : Addr × Addr) (x y : Str), vs = [.ref b.1, .str x, .str y] ∧ Bag H b ∧ PlT x ∧ PlT y ∧ ∀ H', Step b H H' → Q (.bl true) H'
section
variable {P : Program} {w : World} {K : PySem.W.Frag} {mg : Str → Option Value} {base : Heap} (T : Top K mg )
include T
theorem c_lw_right : Cal P w K mg base CX0 4 "_law_right" spRight := by
  refine T.d_lw_right.cal sc_lw_right (fun vs H Q E h => ?_) (fun f cdv A outer s H vs Q E g hr h => ?_)
  · obtain ⟨b, x, y, rfl, _⟩ := h
    rfl
  · obtain ⟨b, x, y, rfl, hb, hx, hy, k⟩ := h
    refine ⟨_, (pss_cons (ps_set (i := 3) sc_lw_right.nd rfl (Or.inl rfl) (pe_op op_mul (pe_callB call_len_str (by rfl) T.n_len PySem.boot_len (pa_cons (pv 1) pa_nil)) (pe_callB call_len_str (by rfl) T.n_len PySem.boot_len (pa_cons (pv 2) pa_nil))))
    (pss_cons (ps_set (i := 4) sc_lw_right.nd rfl (Or.inr rfl) (ec (c_lw_both T) g hr (by decide) pass0 (by rfl) (pa_cons (pv 1) (pa_cons (pv 2) (pa_cons (pe_op op_add (pe_op op_mul pe_int (pv 3)) pe_int) pa_nil)))))
    (pss_cons (ps_set (i := 5) sc_lw_right.nd rfl (Or.inr rfl) pe_non)
    (C8.pss_cut (ps_if (pt_cmpR (kop (K := K) (r := rNeD) (op_neD hr.units) rfl) (pv 4) (pe_lst pa_nil) (nomark _)) (pss_one (ps_set (i := 5) sc_lw_right.nd rfl (Or.inr rfl) (pe_callB (kcr (K := K) (r := rMax) (cr_max rfl) rfl) (by rfl) T.n_max (by decide +kernel) (pa_cons (pe_lc (own := [("_law_k", 10)]) (g := (gName 10)) (tt := tYes) (by rfl) sc_lw_right.nd (pi_range1 (by rfl) T.n_range (pa_cons (pe_op op_sub (pe_callB (k_len (K := K) rfl) (by rfl) T.n_len PySem.boot_len (pa_cons (pv 4) pa_nil)) pe_int) pa_nil)) (blkOk_by (own := [("_law_k", 10)]) (N := ns_lw_right) (sc := defScope s_lw_right) (by decide +kernel)) (fun _ _ _ _ _ => (pg_name (i := 10) sc_lw_right.nd rfl (Or.inl rfl))) (fun _ _ _ _ _ => pts_nil) (fun _ _ _ _ _ => (pe_op op_sub (pe_ix (kix (K := K) (r := rIxL) ix_list rfl) (pv 4) (pe_op op_add (pv 10) pe_int) (fun _ _ => rfl)) (pe_ix (kix (K := K) (r := rIxL) ix_list rfl) (pv 4) (pv 10) (fun _ _ => rfl))))) pa_nil)))) pss_nil)
    (pss_cons (ps_set (i := 6) sc_lw_right.nd rfl (Or.inl rfl) (ec (c_gap T) g hr (by decide) pass0 (by rfl) (pa_cons (pv 1) (pa_cons (pv 2) pa_nil))))
    (pss_cons (ps_if (PW.pt (pw_or (pt_cmpR op_ne (pe_callB (kcr (K := K) (r := rRepr) (cr_repr g hr.units) rfl) (by rfl) T.n_repr (by decide +kernel) (pa_cons (pv 6) pa_nil)) (pe_callB (kcr (K := K) (r := rRepr) (cr_repr g hr.units) rfl) (by rfl) T.n_repr (by decide +kernel) (pa_cons (pv 5) pa_nil)) (nomark _)) (pw_or1 (pt_cmpR op_ne (pe_callB (kcr (K := K) (r := rRepr) (cr_repr g hr.units) rfl) (by rfl) T.n_repr (by decide +kernel) (pa_cons (ec (c_gap T) g hr (by decide) pass0 (by rfl) (pa_cons (pv 2) (pa_cons (pv 1) pa_nil))) pa_nil)) (pe_callB (kcr (K := K) (r := rRepr) (cr_repr g hr.units) rfl) (by rfl) T.n_repr (by decide +kernel) (pa_cons (pv 5) pa_nil)) (nomark _))))) (pss_one (ps_ret pe_bl)) pss_nil)
    (pss_cons (ps_if (pt_cmpR op_isN (pv 5) pe_non (nomark _)) (pss_one (ps_ret pe_bl)) pss_nil)
    (pss_cons (ps_set (i := 7) sc_lw_right.nd rfl (Or.inr rfl) (ec (c_lw_take T) g hr (by decide) pass0 (by rfl) (pa_cons (pv 0) (pa_cons (pv 3) pa_nil))))
    (pss_cons (ps_setLc (i := 8) (own := [("_law_k", 10)]) (g := (gName 10)) (by rfl) sc_lw_right.nd rfl rfl (sw_true rfl rfl rfl (by decide +kernel)) (k_list (K := K) rfl (pv 4)) (blkOk_by (own := [("_law_k", 10)]) (N := ns_lw_right) (sc := defScope s_lw_right) (by decide +kernel)) (fun _ _ _ _ _ => (pg_name (i := 10) sc_lw_right.nd rfl (Or.inl rfl))) (fun _ _ _ _ _ => pts_one (pt_chain op_le op_lt (pv 7) (pv 10) (pe_op op_add (pv 7) (pv 5)))) (fun _ _ _ _ _ => (pv 10)))
    (pss_cons (ps_setLc (i := 9) (own := [("_law_k", 10)]) (g := (gName 10)) (by rfl) sc_lw_right.nd rfl rfl (sw_true rfl rfl rfl (by decide +kernel)) (k_list (K := K) rfl (pv 4)) (blkOk_by (own := [("_law_k", 10)]) (N := ns_lw_right) (sc := defScope s_lw_right) (by decide +kernel)) (fun _ _ _ _ _ => (pg_name (i := 10) sc_lw_right.nd rfl (Or.inr rfl))) (fun _ _ _ _ _ => pts_one (PW.pt (pw_or (pt_cmpR (kop (K := K) (r := fun K => rIn K true) op_notIn_seq rfl) (pe_op op_add (pv 10) (pv 5)) (pv 4) rfl) (pw_or1 (pt_cmpR (kop (K := K) (r := rNeD) (op_neD hr.units) rfl) (pe_lc (own := [("_law_j", 11)]) (g := (gName 11)) (by rfl) sc_lw_right.nd (k_list (K := K) rfl (pv 4)) (blkOk_by (own := [("_law_j", 11)]) (N := ns_lw_right) (by rfl)) (fun _ _ _ _ _ => (pg_name (i := 11) sc_lw_right.nd rfl (Or.inl rfl))) (fun _ _ _ _ _ => pts_one (pt_chain op_lt op_lt (pv 10) (pv 11) (pe_op op_add (pv 10) (pv 5)))) (fun _ _ _ _ _ => (pv 11))) (pe_lst pa_nil) (nomark _)))))) (fun _ _ _ _ _ => (pv 10)))
    (pss_one (ps_ret (pe_and (pe_cmpR (kop (K := K) (r := rNeD) (op_neD hr.units) rfl) (pv 8) (pe_lst pa_nil) (nomark _)) (pe_one (pe_cmpR op_lt (pe_callB (k_len (K := K) rfl) (by rfl) T.n_len PySem.boot_len (pa_cons (pv 9) pa_nil)) (pe_callB (k_len (K := K) rfl) (by rfl) T.n_len PySem.boot_len (pa_cons (pv 4) pa_nil)) (nomark _)))))))))))))))), ?_⟩
    have hA := per_le hx hy
    have hP := bw_per hx hy
    have x8 := hx.hi
    have y8 := hy.hi
    refine q_asg (ev_is (ev_op (ev_lenS (ev_var rfl) hx.len) (ev_lenS (ev_var rfl) hy.len) (rv_I (C := CMul) (.inr ⟨by omega, by omega⟩))) (congrArg V.int (Int.natCast_mul _ _).symm)) fun H1 e1 => ?_
    generalize eA : x.length * y.length = A0 at *
    refine q_asgL (xs := Wm.vN (ons x y (2 * A0 + 2))) (el_cl (ea_cons (ev_var rfl) (ea_cons (ev_var rfl) (ea_cons (ev_is (w := .int ((2 * A0 + 2 : Nat) : Int)) (ev_op (ev_op ev_c (ev_var rfl) (rv_I (C := CMul) (.inr ⟨by omega, by omega⟩))) ev_c rv_I0) (congrArg V.int (by omega))) ea_nil))) (fun H2 e2 Q q E => ⟨x, y, _, rfl, hx, hy, by omega, q⟩)) fun l H2 l0 e2 hl => ?_
    have hLl := ons_len x y (2 * A0 + 2)
    generalize eL : ons x y (2 * A0 + 2) = L at *
    have nl : l ≠ b.1 := (hb.ex e1).ne l0
    refine q_asg ev_c fun H3 e3 => ?_
    have s3 : Step b H H3 := .pure hb ((e1.trans e2).trans e3)
    have hl3 := e3 _ _ hl
    refine q_cut (M := fun σ' H' => ∃ v, GapV (bw x y) v ∧ (v = .non ↔ L = []) ∧ Step b H H' ∧ H' l = some (.lst (Wm.vN L)) ∧ σ' = [some (.ref b.1), some (.str x), some (.str y), some (.int (A0 : Int)), some (.ref l), some v, none, none, none, none, none, none]) ?_ ?_
    · refine s_when (et_test (ev_neNil (ev_var rfl) (sq_of hl3))) (fun hc H4 e4 => ?_) (fun hc H4 e4 => ?_)
      · have hl4 := e4 _ _ hl3
        obtain ⟨f0, r, ho⟩ : ∃ f r, L = f :: r := by
          cases L with
          | nil => cases hc
          | cons x r => exact ⟨x, r, rfl⟩
        have h2 : 2 ≤ L.length := by rw [← eL]; exact ons_two hP (eL.trans ho)
        refine s_asgC1 (el_lcR1 (n := ((L.length - 1 : Nat) : Int)) (fun _ => true) (fun i => .int ((L.getD (i + 1) 0 : Int) - (L.getD i 0 : Int))) (ea_cons (ev_is (ev_op (ev_lenL (ev_var rfl) (sq_of hl4)) ev_c rv_I0) (congrArg V.int (by rw [Wm.vN_len]; omega))) ea_nil) ⟨by omega, by omega⟩ (fun _ => rfl) (fun i H5 e5 hi => yes_ok) (fun i H5 e5 hi _ => ?_)) fun p H5 p0 e5 hp => ?_
        · have at_ : ∀ {j : Nat}, j < L.length → atI (Wm.vN L) (j : Int) = some (.int (L.getD j 0 : Int)) := fun {j} hj => atI_nat (Wm.vN_get (by rw [List.getD_eq_getElem?_getD, List.getElem?_eq_getElem hj]; rfl))
          exact ev_op (ev_op (ev_var rfl) (ev_is (ev_op (ev_var rfl) ev_c rv_I0) (w := .int ((i + 1 : Nat) : Int)) rfl) (rv_ixL (sq_of (e5 _ _ hl4)) (at_ (by omega)))) (ev_op (ev_var rfl) (ev_var rfl) (rv_ixL (sq_of (e5 _ _ hl4)) (at_ (by omega)))) rv_I0
        · refine ⟨p, (List.range (L.length - 1)).map fun i => (L.getD (i + 1) 0 : Int) - (L.getD i 0 : Int), rfl, sq_of (by rw [hp, given_all, List.map_map]; rfl), by rw [List.length_map, List.length_range]; omega, fun m hm hmax => ?_⟩
          obtain ⟨i, hi, em⟩ := List.mem_map.mp hm
          obtain ⟨n, rfl, hg⟩ := two_ans hP (eL.symm) (m := m) ⟨i, List.mem_range.mp hi, em.symm⟩ fun j hj => hmax _ (List.mem_map.mpr ⟨j, List.mem_range.mpr hj, rfl⟩)
          exact ⟨_, .inr ⟨n, rfl, hg⟩, ⟨fun z => (nomatch z), fun z => by rw [z] at ho; cases ho⟩, s3.trans (.pure s3.1 (e4.trans e5)), e5 _ _ hl4, rfl⟩
      · have hn : L = [] := by
          cases L with
          | nil => rfl
          | cons x r => cases hc
        exact ⟨.non, .inl ⟨rfl, (none_iff hP (by omega : A0 ≤ 2 * A0 + 2)).mp (eL.trans hn)⟩, ⟨fun _ => hn, fun _ => rfl⟩, s3.trans (.pure s3.1 e4), e4 _ _ hl3, rfl⟩
    · rintro σ' H4 ⟨v, hv, hvn, s4, hl4, rfl⟩
      obtain ⟨d, hd, hrep⟩ := hv.dp hP (by omega)
      have hv' : GapV (bw y x) v := by rw [bw_comm]; exact hv
      refine q_asg (ev_gap hx hy (ev_var rfl) (ev_var rfl) hv) fun H5 e5 => ?_
      have nn : (!decide (V.str d.shown = V.str d.shown)) = false := by rw [decide_eq_true rfl]; rfl
      refine q_when (b := false) (et_is (et_or (et_test (ev_op (Wm.ev_repr (ev_var rfl) (hd _ _) hrep) (Wm.ev_repr (ev_var rfl) (hd _ _) hrep) (rv_ne rfl))) fun _ => et_test (ev_op (Wm.ev_repr (ev_gap hy hx (ev_var rfl) (ev_var rfl) hv') (hd _ _) hrep) (Wm.ev_repr (ev_var rfl) (hd _ _) hrep) (rv_ne rfl))) (by rw [nn]; rfl)) (fun hc => nomatch hc) fun _ H6 e6 => ?_
      have s6 : Step b H H6 := s4.trans (.pure s4.1 (e5.trans e6))
      have hl6 := e6 _ _ (e5 _ _ hl4)
      refine q_when (b := decide (v = .non)) (et_test (ev_op (ev_var rfl) ev_c (rv_val fun H1 e Q q => ⟨rfl, q⟩))) (fun _ H7 e7 => k H7 (s6.trans (.pure s6.1 e7))) fun hc H7 e7 => ?_
      have hvn0 : v ≠ .non := of_decide_eq_false hc
      rcases hv with ⟨rfl, _⟩ | ⟨m, rfl, hg⟩
      · exact absurd rfl hvn0
      have s7 := s6.trans (.pure s6.1 e7)
      have hl7 := e7 _ _ hl6
      have hA0 := hP.pos
      refine q_dri (p := fun i => 0 ≤ i ∧ i < (A0 : Int)) s7.1 (dri_tkv rfl rfl (by omega) (by omega)) fun st H8 s8 hst => ?_
      obtain ⟨st, rfl⟩ := Int.eq_ofNat_of_zero_le hst.1
      have hst1 : st < A0 := by omega
      have s08 := s7.trans s8
      have hl8 := s8.at nl hl7
      refine q_asgL (el_lcN (fun n => decide (st ≤ n) && decide (n < st + m)) (ev_var rfl) (sq_of hl8) (by omega) (fun _ => rfl) (fun n H9 e9 _ => et_test (ev_is (ev_chain (ev_var rfl) (ev_var rfl) rv_I0 (fun _ => ev_op (ev_var rfl) (ev_var rfl) rv_I0) (fun _ => rv_I0)) ?_)) (fun n H9 e9 _ _ => ev_var rfl)) fun sp H9 sp0 e9 hsp => ?_
      · refine congrArg V.bl (congr (congrArg and (decide_eq_decide.mpr ?_)) (decide_eq_decide.mpr ?_)) <;> omega
      have hl9 := e9 _ _ hl8
      have ee : ∀ n : Nat, (V.int ((n : Int) + (m : Int))) = .int ((n + m : Nat) : Int) := fun n => congrArg V.int (by omega)
      refine q_asgL (el_lcN (fun n => !decide (n + m ∈ L) || !(L.filter fun j => decide (n < j) && decide (j < n + m)).isEmpty) (ev_var rfl) (sq_of hl9) (by omega) (fun _ => rfl) (fun n H10 e10 _ => et_or (et_test (ev_is (ev_op (ev_is (ev_op (ev_var rfl) (ev_var rfl) rv_I0) (ee n)) (ev_var rfl) (rv_niL (sq_of (e10 _ _ hl9)) rfl (Wm.vN_flat L))) (congrArg V.bl (congrArg not (Wm.inV_nat (n + m) L))))) fun _ => et_test (ev_neNilL (el_lcN (fun j => decide (n < j) && decide (j < n + m)) (ev_var rfl) (sq_of (e10 _ _ hl9)) (by omega) (fun _ => rfl) (fun j H11 e11 _ => et_test (ev_is (ev_chain (ev_var rfl) (ev_var rfl) rv_I0 (fun _ => ev_op (ev_var rfl) (ev_var rfl) rv_I0) (fun _ => rv_I0)) ?_)) (fun j H11 e11 _ _ => ev_var rfl)))) (fun n H10 e10 _ _ => ev_var rfl)) fun lg H10 lg0 e10 hlg => ?_
      · refine congrArg V.bl (congr (congrArg and (decide_eq_decide.mpr ?_)) (decide_eq_decide.mpr ?_)) <;> omega
      have hl10 := e10 _ _ hl9
      have hsp10 := e10 _ _ hsp
      refine s_ret (ev_is (ev_andV (ev_neNil (ev_var rfl) (sq_of hsp10)) fun _ => ev_op (ev_lenL (ev_var rfl) (sq_of hlg)) (ev_lenL (ev_var rfl) (sq_of hl10)) rv_I0) (w := .bl true) ?_) fun H11 e11 => k H11 (s08.trans (.pure s08.1 ((e9.trans e10).trans e11)))
      have c1 : (L.filter fun n => decide (st ≤ n) && decide (n < st + m)) ≠ [] := fun z => by
        obtain ⟨t, t1, t2, t3, t4⟩ := gap_span hP hg hst1
        have : t ∈ L.filter fun n => decide (st ≤ n) && decide (n < st + m) := List.mem_filter.mpr ⟨by rw [← eL]; exact List.mem_filter.mpr ⟨List.mem_range.mpr t1, t2⟩, by rw [decide_eq_true t3, decide_eq_true t4]; rfl⟩
        rw [z] at this
        cases this
      have c2 : (L.filter fun n => !decide (n + m ∈ L) || !(L.filter fun j => decide (n < j) && decide (j < n + m)).isEmpty).length < L.length := by
        obtain ⟨t, t1, t2, t3⟩ := gap_there hP hg
        refine List.length_filter_lt_length_iff_exists.mpr ⟨t, by rw [← eL]; exact t1, ?_⟩
        have t2' : t + m ∈ L := by rw [← eL]; exact t2
        have t3' : (L.filter fun j => decide (t < j) && decide (j < t + m)) = [] := by
          rw [← eL]
          unfold ons
          rw [List.filter_filter]
          refine List.filter_eq_nil_iff.mpr fun j hj z => ?_
          have := List.filter_eq_nil_iff.mp t3 j hj
          refine this ?_
          rw [Bool.and_comm]
          exact z
        rw [decide_eq_true t2', t3']
        decide
      rw [Wm.vN_len, Wm.vN_len]
      refine congrArg V.bl ?_
      rw [decide_eq_true (by omega)]
      cases hh : (L.filter fun n => decide (st ≤ n) && decide (n < st + m)) with
      | nil => exact absurd hh c1
      | cons _ _ => rfl
end
end K38
end
section
set_option Elab.async false
set_option linter.all false
set_option maxRecDepth 100000
set_option maxHeartbeats 4000000
namespace K38
local macro_rules | `(tactic| walk_at "pos") => `(tactic| (show (0 : Int) < _; first | decide | omega))
open PySem PySem.Spec PyProof.Rows L2 Lf 
open Evl
local macro_rules | `(tactic| walk_at "lk") => `(tactic| (simp (disch := decide +kernel) only [lk_hit, lk_miss, lk_nil]))
local macro_rules | `(tactic| walk_at "pf") => `(tactic| (simp (disch := decide +kernel) only [pf_hit, pf_miss, pf_nil]))
theorem pl_w : PlT "w" := ⟨by decide, by decide⟩
theorem pl_s : PlT "s" := ⟨by decide, by decide⟩
theorem pl_8 : PlT "wsssssss" := ⟨by decide, by decide⟩
theorem pl_7 : PlT "wssssss" := ⟨by decide, by decide⟩
theorem far_gap {x y : Str} (hx : PlT x) (hy : PlT y) (h0 : bw x y 0 = true) (h : ∀ j : Fin (x.length * y.length), 0 < j.val → bw x y j.val = false) : IsGap (bw x y) (x.length * y.length) := by
  have hp := bw_per hx hy
  refine ⟨⟨0, x.length * y.length, ⟨hp.pos, h0, ?_, fun j j1 j2 => h ⟨j, j2⟩ j1⟩, by omega⟩, fun a b n => by have := n.far hp; omega⟩
  have := hp.per 0
  rw [Nat.zero_add] at this
  rw [this]
  exact h0
theorem gap_ww : IsGap (bw "w" "w") 1 := far_gap pl_w pl_w (by decide +kernel) (by decide +kernel)
theorem gap_87 : IsGap (bw "wsssssss" "wssssss") 56 := far_gap pl_8 pl_7 (by decide +kernel) (by decide +kernel)
theorem gap_sw (n : Nat) : bw "s" "w" n = false := by
  have hp := bw_per pl_s pl_w
  rw [← hp.mod n]
  have : n % (Str.length "s" * Str.length "w") = 0 := Nat.mod_one n
  rw [this]
  decide +kernel
section
variable {P : Program} {w : World} {K : PySem.W.Frag} {mg : Str → Option Value} {base : Heap} (T : Top K mg )
include T
theorem f_law {f : Addr} {fd : FuncData} (F : L2.Fun K "law" "law" s_law f fd) : Fn P w K mg base CX0 9 f fd ["_law_script"] (spLaw K) := by
  refine fn0G F sc_law (fun vs H Q E h => ?_) (fun cdv A outer s H vs Q E g hr h => ?_)
  · obtain ⟨a, ns, rfl, _⟩ := h
    rfl
  · obtain ⟨a, ns, rfl, hx, hl, k⟩ := h
    refine ⟨_, (pss_cons (ps_set (i := 1) sc_law.nd rfl (Or.inl rfl) (ec (c_lw_bag T) g hr (by decide) pass0 (by rfl) (pa_cons (pv 0) pa_nil)))
    (pss_cons (ps_for PassesOwn.never rfl (pi_range1 (by rfl) T.n_range (pa_cons pe_int pa_nil)) (pg_name (i := 2) sc_law.nd rfl (Or.inl rfl)) (pss_cons (ps_asg (ec (c_lw_two T) g hr (by decide) pass0 (by rfl) (pa_cons (pv 1) pa_nil)) (k_gtup (K := K) rfl (by rfl) (pgs_cons (pg_name (i := 3) sc_law.nd rfl (Or.inl rfl)) (pgs_cons (pg_name (i := 4) sc_law.nd rfl (Or.inl rfl)) pgs_nil))))
        (pss_one (ps_if (pt_not (pt_val (ec (c_lw_right T) g hr (by decide) pass0 (by rfl) (pa_cons (pv 1) (pa_cons (pv 3) (pa_cons (pv 4) pa_nil)))))) (pss_one (ps_ret pe_bl)) pss_nil))))
    (pss_one (ps_ret (pe_and (pe_cmpR (kop (K := K) (r := rEqD) (op_eqD hr.units) rfl) (ec (c_gap T) g hr (by decide) pass0 (by rfl) (pa_cons pe_str (pa_cons pe_str pa_nil))) pe_int (nomark _)) (pe_and (pe_cmpR op_isN (ec (c_gap T) g hr (by decide) pass0 (by rfl) (pa_cons pe_str (pa_cons pe_str pa_nil))) pe_non (nomark _)) (pe_one (pe_cmpR (kop (K := K) (r := rEqD) (op_eqD hr.units) rfl) (ec (c_gap T) g hr (by decide) pass0 (by rfl) (pa_cons pe_str (pa_cons pe_str pa_nil))) pe_int (nomark _))))))))), ?_⟩
    refine ⟨_, rfl, a, ns, rfl, hx, hl, fun b H1 e1 b0 hb1 => ?_⟩
    dsimp only [gName]
    refine q_forR1 (n := 12) (ea_cons ev_c ea_nil) ⟨by decide, by decide⟩ (fun _ σ' H' => ∃ o2 o3 o4, σ' = [some (.ref a), some (.ref b.1), o2, o3, o4] ∧ Bag H' b) (fun H2 e2 => ⟨_, _, _, rfl, hb1.ex e2⟩) ?_ ?_
    · rintro i σ' H' hi ⟨o2, o3, o4, rfl, hb⟩
      refine ⟨_, rfl, b, rfl, hb, fun u x y H2 hx' hy s2 u0 hu => ?_⟩
      refine ⟨u, _, rfl, st_of hu, rfl, _, _, rfl, _, _, rfl, rfl, ?_⟩
      refine ⟨_, rfl, _, rfl, _, rfl, b, x, y, rfl, s2.1, hx', hy, fun H3 s3 => ?_⟩
      exact ⟨true, rfl, iteF ⟨_, _, _, rfl, s3.1⟩⟩
    · rintro σ' H' ⟨o2, o3, o4, rfl, hb⟩
      have eq_ : ∀ {te : TE} {n : Nat} {σ : L2.St} {H1 : Hp}, Ev te σ H1 (.int (n : Int)) → Ev (tOp (rEqD K) te (tC (.int (n : Int)))) σ H1 (.bl true) := fun {te n σ H1} he => ev_is (ev_op he ev_c (rv_eqD2 (.int _) (.int _) (Wm.Sh.int _) (Wm.Sh.int _) (by decide) (by decide))) (congrArg V.bl (eqv_sh (Wm.Sh.int _)))
      exact s_ret (ev_is (ev_andV (eq_ (n := 1) (ev_gap pl_w pl_w ev_c ev_c (.inr ⟨1, rfl, gap_ww⟩))) fun _ => ev_andV (ev_op (ev_gap pl_s pl_w ev_c ev_c (.inl ⟨rfl, gap_sw⟩)) ev_c (rv_val fun H1 e Q q => ⟨rfl, q⟩)) fun _ => eq_ (n := 56) (ev_gap pl_8 pl_7 ev_c ev_c (.inr ⟨56, rfl, gap_87⟩))) (w := .bl true) rfl) fun H3 e3 => k H3
end
end K38
end
section
set_option Elab.async false
set_option linter.all false
set_option maxRecDepth 100000
set_option maxHeartbeats 4000000
namespace K38
local macro_rules | `(tactic| walk_at "pos") => `(tactic| (show (0 : Int) < _; first | decide | omega))
open PySem PySem.Spec PyProof.Rows L2 Lf 
open Evl
local macro_rules | `(tactic| walk_at "lk") => `(tactic| (simp (disch := decide +kernel) only [lk_hit, lk_miss, lk_nil]))
local macro_rules | `(tactic| walk_at "pf") => `(tactic| (simp (disch := decide +kernel) only [pf_hit, pf_miss, pf_nil]))
theorem all_mk {l : PySem.W.OpenLaw} {w : World} {K : PySem.W.Frag} {h : Heap} {mg : Str → Option Value} {fa f_text_of f_wakes_by f_gap f_lw_bag f_lw_take f_lw_plan f_lw_two f_lw_both f_lw_right f_law : Addr} (X : K.In h) (G : h.Ns mainGlobals mg) (hfa : mg "law" = some (.ref fa))
    {oc_text_of kV_text_of dc_text_of pm_text_of cd_text_of ct_text_of oc_wakes_by kV_wakes_by dc_wakes_by pm_wakes_by cd_wakes_by ct_wakes_by oc_gap kV_gap dc_gap pm_gap cd_gap ct_gap oc_lw_bag kV_lw_bag dc_lw_bag pm_lw_bag cd_lw_bag ct_lw_bag oc_lw_take kV_lw_take dc_lw_take pm_lw_take cd_lw_take ct_lw_take oc_lw_plan kV_lw_plan dc_lw_plan pm_lw_plan cd_lw_plan ct_lw_plan oc_lw_two kV_lw_two dc_lw_two pm_lw_two cd_lw_two ct_lw_two oc_lw_both kV_lw_both dc_lw_both pm_lw_both cd_lw_both ct_lw_both oc_lw_right kV_lw_right dc_lw_right pm_lw_right cd_lw_right ct_lw_right oc_law kV_law dc_law pm_law cd_law ct_law : Value} {od_text_of an_text_of od_wakes_by an_wakes_by od_gap an_gap od_lw_bag an_lw_bag od_lw_take an_lw_take od_lw_plan an_lw_plan od_lw_two an_lw_two od_lw_both an_lw_both od_lw_right an_lw_right od_law an_law : Option Addr} {sl_text_of sl_wakes_by sl_gap sl_lw_bag sl_lw_take sl_lw_plan sl_lw_two sl_lw_both sl_lw_right sl_law : Array (Option Value)}
    (a_text_of : PySem.W.nsIn K mainGlobals "text_of" = some (some (.ref f_text_of)))
    (l_text_of : K.lookup f_text_of = some ⟨oc_text_of, od_text_of, .func (PySem.W.fnOf "text_of" "text_of" (defArgs s_text_of) (defBody s_text_of) (defScope s_text_of) .none kV_text_of dc_text_of pm_text_of an_text_of cd_text_of ct_text_of), sl_text_of⟩)
    (cdi_text_of : PySem.W.codeIn K cd_text_of "text_of" = true)
    (k_text_of : PySem.W.keepIn K (.ref f_text_of) = true)
    (a_wakes_by : PySem.W.nsIn K mainGlobals "wakes_by" = some (some (.ref f_wakes_by)))
    (l_wakes_by : K.lookup f_wakes_by = some ⟨oc_wakes_by, od_wakes_by, .func (PySem.W.fnOf "wakes_by" "wakes_by" (defArgs s_wakes_by) (defBody s_wakes_by) (defScope s_wakes_by) .none kV_wakes_by dc_wakes_by pm_wakes_by an_wakes_by cd_wakes_by ct_wakes_by), sl_wakes_by⟩)
    (cdi_wakes_by : PySem.W.codeIn K cd_wakes_by "wakes_by" = true)
    (k_wakes_by : PySem.W.keepIn K (.ref f_wakes_by) = true)
    (a_gap : PySem.W.nsIn K mainGlobals "gap" = some (some (.ref f_gap)))
    (l_gap : K.lookup f_gap = some ⟨oc_gap, od_gap, .func (PySem.W.fnOf "gap" "gap" (defArgs s_gap) (defBody s_gap) (defScope s_gap) .none kV_gap dc_gap pm_gap an_gap cd_gap ct_gap), sl_gap⟩)
    (cdi_gap : PySem.W.codeIn K cd_gap "gap" = true)
    (k_gap : PySem.W.keepIn K (.ref f_gap) = true)
    (a_lw_bag : PySem.W.nsIn K mainGlobals "_law_bag" = some (some (.ref f_lw_bag)))
    (l_lw_bag : K.lookup f_lw_bag = some ⟨oc_lw_bag, od_lw_bag, .func (PySem.W.fnOf "_law_bag" "_law_bag" (defArgs s_lw_bag) (defBody s_lw_bag) (defScope s_lw_bag) .none kV_lw_bag dc_lw_bag pm_lw_bag an_lw_bag cd_lw_bag ct_lw_bag), sl_lw_bag⟩)
    (cdi_lw_bag : PySem.W.codeIn K cd_lw_bag "_law_bag" = true)
    (k_lw_bag : PySem.W.keepIn K (.ref f_lw_bag) = true)
    (a_lw_take : PySem.W.nsIn K mainGlobals "_law_take" = some (some (.ref f_lw_take)))
    (l_lw_take : K.lookup f_lw_take = some ⟨oc_lw_take, od_lw_take, .func (PySem.W.fnOf "_law_take" "_law_take" (defArgs s_lw_take) (defBody s_lw_take) (defScope s_lw_take) .none kV_lw_take dc_lw_take pm_lw_take an_lw_take cd_lw_take ct_lw_take), sl_lw_take⟩)
    (cdi_lw_take : PySem.W.codeIn K cd_lw_take "_law_take" = true)
    (k_lw_take : PySem.W.keepIn K (.ref f_lw_take) = true)
    (a_lw_plan : PySem.W.nsIn K mainGlobals "_law_plan" = some (some (.ref f_lw_plan)))
    (l_lw_plan : K.lookup f_lw_plan = some ⟨oc_lw_plan, od_lw_plan, .func (PySem.W.fnOf "_law_plan" "_law_plan" (defArgs s_lw_plan) (defBody s_lw_plan) (defScope s_lw_plan) .none kV_lw_plan dc_lw_plan pm_lw_plan an_lw_plan cd_lw_plan ct_lw_plan), sl_lw_plan⟩)
    (cdi_lw_plan : PySem.W.codeIn K cd_lw_plan "_law_plan" = true)
    (k_lw_plan : PySem.W.keepIn K (.ref f_lw_plan) = true)
    (a_lw_two : PySem.W.nsIn K mainGlobals "_law_two" = some (some (.ref f_lw_two)))
    (l_lw_two : K.lookup f_lw_two = some ⟨oc_lw_two, od_lw_two, .func (PySem.W.fnOf "_law_two" "_law_two" (defArgs s_lw_two) (defBody s_lw_two) (defScope s_lw_two) .none kV_lw_two dc_lw_two pm_lw_two an_lw_two cd_lw_two ct_lw_two), sl_lw_two⟩)
    (cdi_lw_two : PySem.W.codeIn K cd_lw_two "_law_two" = true)
    (k_lw_two : PySem.W.keepIn K (.ref f_lw_two) = true)
    (a_lw_both : PySem.W.nsIn K mainGlobals "_law_both" = some (some (.ref f_lw_both)))
    (l_lw_both : K.lookup f_lw_both = some ⟨oc_lw_both, od_lw_both, .func (PySem.W.fnOf "_law_both" "_law_both" (defArgs s_lw_both) (defBody s_lw_both) (defScope s_lw_both) .none kV_lw_both dc_lw_both pm_lw_both an_lw_both cd_lw_both ct_lw_both), sl_lw_both⟩)
    (cdi_lw_both : PySem.W.codeIn K cd_lw_both "_law_both" = true)
    (k_lw_both : PySem.W.keepIn K (.ref f_lw_both) = true)
    (a_lw_right : PySem.W.nsIn K mainGlobals "_law_right" = some (some (.ref f_lw_right)))
    (l_lw_right : K.lookup f_lw_right = some ⟨oc_lw_right, od_lw_right, .func (PySem.W.fnOf "_law_right" "_law_right" (defArgs s_lw_right) (defBody s_lw_right) (defScope s_lw_right) .none kV_lw_right dc_lw_right pm_lw_right an_lw_right cd_lw_right ct_lw_right), sl_lw_right⟩)
    (cdi_lw_right : PySem.W.codeIn K cd_lw_right "_law_right" = true)
    (k_lw_right : PySem.W.keepIn K (.ref f_lw_right) = true)
    (z_abs : PySem.W.nsIn K mainGlobals "abs" = some none)
    (z_int : PySem.W.nsIn K mainGlobals "int" = some none)
    (z_isinstance : PySem.W.nsIn K mainGlobals "isinstance" = some none)
    (z_len : PySem.W.nsIn K mainGlobals "len" = some none)
    (z_max : PySem.W.nsIn K mainGlobals "max" = some none)
    (z_range : PySem.W.nsIn K mainGlobals "range" = some none)
    (z_repr : PySem.W.nsIn K mainGlobals "repr" = some none)
    (z_str : PySem.W.nsIn K mainGlobals "str" = some none)
    (z_zip : PySem.W.nsIn K mainGlobals "zip" = some none)
    (a_law : PySem.W.nsIn K mainGlobals "law" = some (some (.ref f_law)))
    (l_law : K.lookup f_law = some ⟨oc_law, od_law, .func (PySem.W.fnOf "law" "law" (defArgs s_law) (defBody s_law) (defScope s_law) .none kV_law dc_law pm_law an_law cd_law ct_law), sl_law⟩)
    (cdi_law : PySem.W.codeIn K cd_law "law" = true)
    (k_law : PySem.W.keepIn K (.ref f_law) = true)
    : ∃ fd : FuncData, (∀ (s : Shared) (v : Value), BindsTo s fd ⟨[v], []⟩ [("_law_script", v)]) ∧ ∀ base : Heap, K.In base → base.Ns mainGlobals mg → Fn l.prog w K mg base CX0 9 fa fd ["_law_script"] (spLaw K) := by
  have e := hfa.symm.trans (PySem.W.mg_of X G a_law)
  cases e
  have F_text_of := fun_mk (st := s_text_of) l_text_of cdi_text_of k_text_of
  have b_text_of := F_text_of.binds (ps := ["thing"]) fun _ _ _ _ _ _ us hl => match us, hl with | [_], _ => rfl
  have F_wakes_by := fun_mk (st := s_wakes_by) l_wakes_by cdi_wakes_by k_wakes_by
  have b_wakes_by := F_wakes_by.binds (ps := ["plan", "turn"]) fun _ _ _ _ _ _ us hl => match us, hl with | [_, _], _ => rfl
  have F_gap := fun_mk (st := s_gap) l_gap cdi_gap k_gap
  have b_gap := F_gap.binds (ps := ["plan", "other"]) fun _ _ _ _ _ _ us hl => match us, hl with | [_, _], _ => rfl
  have F_lw_bag := fun_mk (st := s_lw_bag) l_lw_bag cdi_lw_bag k_lw_bag
  have b_lw_bag := F_lw_bag.binds (ps := ["_law_script"]) fun _ _ _ _ _ _ us hl => match us, hl with | [_], _ => rfl
  have F_lw_take := fun_mk (st := s_lw_take) l_lw_take cdi_lw_take k_lw_take
  have b_lw_take := F_lw_take.binds (ps := ["_law_bag_here", "_law_many"]) fun _ _ _ _ _ _ us hl => match us, hl with | [_, _], _ => rfl
  have F_lw_plan := fun_mk (st := s_lw_plan) l_lw_plan cdi_lw_plan k_lw_plan
  have b_lw_plan := F_lw_plan.binds (ps := ["_law_bag_here"]) fun _ _ _ _ _ _ us hl => match us, hl with | [_], _ => rfl
  have F_lw_two := fun_mk (st := s_lw_two) l_lw_two cdi_lw_two k_lw_two
  have b_lw_two := F_lw_two.binds (ps := ["_law_bag_here"]) fun _ _ _ _ _ _ us hl => match us, hl with | [_], _ => rfl
  have F_lw_both := fun_mk (st := s_lw_both) l_lw_both cdi_lw_both k_lw_both
  have b_lw_both := F_lw_both.binds (ps := ["_law_plan_here", "_law_other", "_law_many"]) fun _ _ _ _ _ _ us hl => match us, hl with | [_, _, _], _ => rfl
  have F_lw_right := fun_mk (st := s_lw_right) l_lw_right cdi_lw_right k_lw_right
  have b_lw_right := F_lw_right.binds (ps := ["_law_bag_here", "_law_plan_here", "_law_other"]) fun _ _ _ _ _ _ us hl => match us, hl with | [_, _, _], _ => rfl
  have F_law := fun_mk (st := s_law) l_law cdi_law k_law
  have T : Top K mg  := {
    d_text_of := ⟨_, _, F_text_of, PySem.W.mg_of X G a_text_of, b_text_of⟩,
    d_wakes_by := ⟨_, _, F_wakes_by, PySem.W.mg_of X G a_wakes_by, b_wakes_by⟩,
    d_gap := ⟨_, _, F_gap, PySem.W.mg_of X G a_gap, b_gap⟩,
    d_lw_bag := ⟨_, _, F_lw_bag, PySem.W.mg_of X G a_lw_bag, b_lw_bag⟩,
    d_lw_take := ⟨_, _, F_lw_take, PySem.W.mg_of X G a_lw_take, b_lw_take⟩,
    d_lw_plan := ⟨_, _, F_lw_plan, PySem.W.mg_of X G a_lw_plan, b_lw_plan⟩,
    d_lw_two := ⟨_, _, F_lw_two, PySem.W.mg_of X G a_lw_two, b_lw_two⟩,
    d_lw_both := ⟨_, _, F_lw_both, PySem.W.mg_of X G a_lw_both, b_lw_both⟩,
    d_lw_right := ⟨_, _, F_lw_right, PySem.W.mg_of X G a_lw_right, b_lw_right⟩,
    n_abs := PySem.W.mg_none_of X G z_abs,
    n_int := PySem.W.mg_none_of X G z_int,
    n_isinstance := PySem.W.mg_none_of X G z_isinstance,
    n_len := PySem.W.mg_none_of X G z_len,
    n_max := PySem.W.mg_none_of X G z_max,
    n_range := PySem.W.mg_none_of X G z_range,
    n_repr := PySem.W.mg_none_of X G z_repr,
    n_str := PySem.W.mg_none_of X G z_str,
    n_zip := PySem.W.mg_none_of X G z_zip }
  refine ⟨PySem.W.fnOf "law" "law" (defArgs s_law) (defBody s_law) (defScope s_law) .none kV_law dc_law pm_law an_law cd_law ct_law, fun s v => .of_eq rfl, fun base _ _ => ?_⟩
  exact f_law T F_law
end K38
open PySem PySem.W PyProof.Rows in
set_option maxRecDepth 100000 in
set_option maxHeartbeats 0 in
theorem PySem.Challenge.cw_listenfield_k38_gaps_of_plans_holds : PySem.Challenge.rw_listenfield_k38_gaps_of_plans.Holds := by
  w_on; o_law; k_head; (case hw => w_witness2)
  k_fill
  refine Lf.walkG (l := PySem.Challenge.rw_listenfield_k38_gaps_of_plans) (k := 9) (x := "_law_script") (sp := fun w => Lf.spLaw _) rfl rfl ⟨rfl, by decide, by decide⟩ (fun w h Y => PySem.W.kIn_of Y) ?F (fun _ _ a ns hl _ hS => ⟨a, ns, rfl, hS, hl, fun _ => rfl⟩)
  case F =>
    intro w mg fa h KX G hmg
    refine' K38.all_mk KX G hmg ?a_text_of ?l_text_of ?cdi_text_of ?k_text_of ?a_wakes_by ?l_wakes_by ?cdi_wakes_by ?k_wakes_by ?a_gap ?l_gap ?cdi_gap ?k_gap ?a_lw_bag ?l_lw_bag ?cdi_lw_bag ?k_lw_bag ?a_lw_take ?l_lw_take ?cdi_lw_take ?k_lw_take ?a_lw_plan ?l_lw_plan ?cdi_lw_plan ?k_lw_plan ?a_lw_two ?l_lw_two ?cdi_lw_two ?k_lw_two ?a_lw_both ?l_lw_both ?cdi_lw_both ?k_lw_both ?a_lw_right ?l_lw_right ?cdi_lw_right ?k_lw_right ?z_abs ?z_int ?z_isinstance ?z_len ?z_max ?z_range ?z_repr ?z_str ?z_zip ?a_law ?l_law ?cdi_law ?k_law
    (case a_text_of => k_is)
    (case l_text_of => k_is)
    (case cdi_text_of => k_is)
    (case k_text_of => k_is)
    (case a_wakes_by => k_is)
    (case l_wakes_by => k_is)
    (case cdi_wakes_by => k_is)
    (case k_wakes_by => k_is)
    (case a_gap => k_is)
    (case l_gap => k_is)
    (case cdi_gap => k_is)
    (case k_gap => k_is)
    (case a_lw_bag => k_is)
    (case l_lw_bag => k_is)
    (case cdi_lw_bag => k_is)
    (case k_lw_bag => k_is)
    (case a_lw_take => k_is)
    (case l_lw_take => k_is)
    (case cdi_lw_take => k_is)
    (case k_lw_take => k_is)
    (case a_lw_plan => k_is)
    (case l_lw_plan => k_is)
    (case cdi_lw_plan => k_is)
    (case k_lw_plan => k_is)
    (case a_lw_two => k_is)
    (case l_lw_two => k_is)
    (case cdi_lw_two => k_is)
    (case k_lw_two => k_is)
    (case a_lw_both => k_is)
    (case l_lw_both => k_is)
    (case cdi_lw_both => k_is)
    (case k_lw_both => k_is)
    (case a_lw_right => k_is)
    (case l_lw_right => k_is)
    (case cdi_lw_right => k_is)
    (case k_lw_right => k_is)
    (case z_abs => k_is)
    (case z_int => k_is)
    (case z_isinstance => k_is)
    (case z_len => k_is)
    (case z_max => k_is)
    (case z_range => k_is)
    (case z_repr => k_is)
    (case z_str => k_is)
    (case z_zip => k_is)
    (case a_law => k_is)
    (case l_law => k_is)
    (case cdi_law => k_is)
    (case k_law => k_is)
end
