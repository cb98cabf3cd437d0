import PyProof.Rows.All
import Wide.All
import OpenK.AllK
import Wide.FinOn
import HandS.ForMost
import HandS.Sort
import HandS.IsInst
import HandS.Deep
import HandS.TupAny
import HandS.TryOnly
import HandS.Style
import HandS.Flow
import HandS.Codes
import HandS.Evl
import HandS.SortInts
import HandS.Wide
import HandS.Gcd
import KE.KSortedM
import KE.DataMinMax
import KE.SortData
import HandS.DictComp
import HandS.More
import HandS.Walk
import HandS.DictTup
import PyProof.DictMoreH
import HandS.Conv
import PySem.Challenge.RW_listenfield_k48_whole_any_order_between
section
set_option Elab.async false
set_option linter.all false
set_option maxRecDepth 100000
set_option maxHeartbeats 4000000
/-! Lf: rules and words of our own over the hand layer (listenfield laws). -/
namespace Lf
open PySem PySem.Spec PyProof.Rows L2
theorem q_rng_item (r : Addr) (a b i : Int) (t u v k : Tok) (j : Int) (hj : j = if i < 0 then i + Builtin.Range.rangeSize a b 1 else i) (h0 : 0 ≤ j) (h1 : j < Builtin.Range.rangeSize a b 1) :
    Meets (Builtin.«range.__getitem__» ⟨[.ref r, .int i k], []⟩) (fun _ R s => s.heap.get? r = some { cls := .type "range", dict := none, data := .fields #[.int a t, .int b u, .int 1 v], slots := #[] } ∧ R (.ok (.ret (.int (a + j * 1) s.toks))) { s with toks := s.toks + 1 }) :=
  .of_wp fun prog w A R s h => by
    obtain ⟨hp, g, d, tk, os⟩ := s; obtain ⟨hl, h⟩ := h
    have e : (decide (j < 0) || decide (j ≥ Builtin.Range.rangeSize a b 1)) = false := by
      rw [decide_eq_false (by omega), decide_eq_false (by omega)]; rfl
    have f1 := PySem.AutoSeq1.idx_int
    wp_walk
    rw [← hj, e]
    wp_walk
    exact ⟨_, rfl, h⟩
theorem get_rng {prog : Program} {w : World} {A : Around} {E : Value → Shared → Prop} {s : Shared} {r : Addr} {a b i : Int} {t u v k : Tok} {Q : Value → Shared → Prop} (ho : s.heap.get? r = some { cls := .type "range", dict := none, data := .fields #[.int a t, .int b u, .int 1 v], slots := #[] }) (j : Int) (hj : j = if i < 0 then i + Builtin.Range.rangeSize a b 1 else i) (h0 : 0 ≤ j) (h1 : j < Builtin.Range.rangeSize a b 1)
    (h : Q (.int (a + j * 1) s.toks) { s with toks := s.toks + 1 }) : wpAny (model prog w) A (getItem (.ref r) (.int i k)) Q E s := by
  have hT : s.TypeIs (.ref r) "range" := ⟨_, ho, rfl⟩
  exact wpAny_getItem_slot hT (by decide +kernel) F.slot_range_getitem (call_meets F.slot_range_getitem hT F.entry_range_getitem (F.args_range_getitem_2 _ _) (q_rng_item r a b i t u v k j hj h0 h1) ⟨ho, h⟩)
section
variable {X : Cx}
/-- r[i] of a range object, i from 0 or from the end -/
def rIxR : R2 := fun x y H Q => ∃ p lo hi i j, x = .ref p ∧ y = .int i ∧ H p = some (.rng lo hi) ∧ (j = if i < 0 then i + (hi - lo) else i) ∧ (0 ≤ j ∧ lo + j < hi) ∧ Q (.int (lo + j)) H
theorem ix_rng : IxR X rIxR := by
  intro value slice pins s σ H x y v u Q I rx ry h hs
  obtain ⟨p, lo, hi, i, j, rfl, rfl, hq, hj, ⟨h0, h1⟩, q⟩ := h
  cases rx
  obtain ⟨k, rfl⟩ := ry
  obtain ⟨t1, t2, t3, ho⟩ := I.hok p _ hq
  have hT : s.TypeIs (.ref p) "range" := ⟨_, ho, rfl⟩
  have hz : Builtin.Range.rangeSize lo hi 1 = hi - lo := by rw [rangeSize_one, if_pos (by omega)]
  refine tail_any hT F.slot_range_getitem.lookup (get_rng ho j (by rw [hz]; exact hj) h0 (by omega) ⟨.int (lo + j), H, I.tok _, ?_, q⟩) hs
  rw [Int.mul_one]
  exact ⟨_, rfl⟩
/-- xs[i], by values -/
theorem get_list : PGet X (rIxL X.K) := by
  intro pins s σ H x y v u Q I rx ry h
  obtain ⟨p, xs, i, z, rfl, rfl, hq, he, q⟩ := h
  cases rx
  obtain ⟨t, rfl⟩ := ry
  obtain ⟨its, r, pl, hz⟩ := I.list hq
  obtain ⟨j, h1, h2, h3, h4, h5⟩ := atI_get he
  obtain ⟨w, ew, rw'⟩ := r.get h2
  have hl := r.length
  have hn := line63
  have fin : EP X pins σ Q w s := ⟨z, H, I, rw', q⟩
  by_cases h0 : 0 ≤ i
  · have hj : i.toNat = j := by
      rw [seqIndex_of h0 h5] at h1
      exact Option.some.inj h1
    exact wpAny_getItem_list pl.isList h0 (by omega) (by rw [hj]; simpa using ew) fin
  · have hj : (i + (its.toArray.size : Int)).toNat = j := by
      rw [seqIndex_neg (by omega) h4] at h1
      rw [List.size_toArray, ← hl]
      exact Option.some.inj h1
    exact wpAny_getItem_list_neg pl.isList (by omega) (by rw [List.size_toArray] <;> omega) (by omega) (by rw [hj]; simpa using ew) fin
/-- range(n) as a value -/
theorem cr_range1 : CallR X (.type "range") (fun vs H Q => ∃ j, vs = [V.int j] ∧ ∀ p, H p = none → Q (.ref p) (upd H p (.rng 0 j))) := by
  intro pins s σ H vs us Q I r h
  obtain ⟨j, rfl, q⟩ := h
  obtain ⟨u1, rfl, t, rfl⟩ := vals1 r
  refine call_range_1 ⟨.ref s.heap.objs.size, upd H s.heap.objs.size (.rng 0 j), I.laid (t' := s.toks + 1 + 1) (fun b o e => Heap.get?_push_of_some _ e) (Nat.le_refl _) ?_, rfl, q _ (I.hok.fresh (Nat.le_refl _))⟩
  exact ⟨s.toks, t, s.toks + 1, Heap.get?_push_size _ rfl⟩
end

/-! ### defs under known guards: repr of a list asks that nobody is being shown around it -/
structure Fn (P : Program) (w : World) (K : PySem.W.Frag) (mg : Str → Option Value) (base : Heap) (CX : CXT) (k : Nat) (f : Addr) (fd : FuncData) (ps : List Str) (sp : Sp) : Prop where
  many : ∀ vs H Q E, sp vs H Q E → vs.length = ps.length
  go : ∀ (A : Around) (outer : List Env) (s : Shared) (H : Hp) (args : Args) (us : List Value) (vs : List V) (Q : VK) (E : XK), A.guards = some [] → Room k A →
    Env0 P w K mg base A outer s H → BindsTo s fd args (ps.zip us) → Vals vs us → sp vs H Q E → codeAny (model P w) A (.call (.ref f) args) (CR CX outer P w H s Q E) s
section
variable {X : Cx} {CX : CXT} {k j : Nat} {f C : Addr} {fd : FuncData} {ps : List Str} {sp : Sp} {E : XK}
theorem Fn.ran {pins : List (Addr × Obj)} {σ : L2.St} {H : Hp} {s : Shared} {Q : VK} {us : List Value} {vs : List V} (F : Fn X.prog X.w X.K X.mg X.base CX k f fd ps sp) (g : X.A.guards = some []) (hr : Room k X.A)
    (hb : Binds X.K fd ps []) (hx : Passes CX X E) (I : Inv X pins σ H s) (r : Vals vs us) (h : sp vs H Q E) : wpAny (model X.prog X.w) X.A (call (.ref f) us) (EP X pins σ Q) X.xe s := by
  have n1 : us.length = ps.length := by
    rw [← F.many _ _ _ _ h]
    exact r.length.symm
  have b1 := hb s us I.kIn (by rw [List.append_nil]; exact n1)
  rw [List.append_nil] at b1
  refine wpAny_call (codeAny_mono (F.go _ _ _ _ _ us vs Q E g hr I.env0 b1 r h) ?_)
  intro res s' hq
  rcases res with e | fl
  · exact hx _ _ _ _ _ _ I hq
  · cases fl
    case ret u => exact I.after hq
    all_goals exact hq.elim
theorem Fn.made {pins : List (Addr × Obj)} {σ : L2.St} {H : Hp} {s : Shared} {Q : VK} {us : List Value} {vs : List V} (M : Mk X.K C f) (F : Fn X.prog X.w X.K X.mg X.base CX k f fd ps sp) (g : X.A.guards = some []) (hr : Room (k + 1) X.A)
    (hb : Binds X.K fd ps []) (hx : Passes CX X E) (I : Inv X pins σ H s) (r : Vals vs us)
    (h : ∀ x dx, H x = none → H dx = none → dx ≠ x → sp (.ref x :: vs) (upd (upd H dx (.own x)) x (.ins C dx [])) (fun v H2 => v = .non ∧ Q (.ref x) H2) E) :
    wpAny (model X.prog X.w) X.A (call (.ref C) us) (EP X pins σ Q) X.xe s := by
  have f0 : H s.heap.objs.size = none := I.hok.fresh (Nat.le_refl _)
  have f1 : H (s.heap.objs.size + 1) = none := I.hok.fresh (Nat.le_succ _)
  have h1 := h _ _ f1 f0 (Nat.ne_of_lt (Nat.lt_succ_self _))
  have I1 := Inv.made (C := C) I
  have r1 : Vals (V.ref (s.heap.objs.size + 1) :: vs) (Value.ref (s.heap.objs.size + 1) :: us) := .cons rfl r
  have n1 : (Value.ref (s.heap.objs.size + 1) :: us).length = ps.length := by
    rw [← F.many _ _ _ _ h1]
    exact r1.length.symm
  have b1 := hb _ _ I1.kIn (show (Value.ref (s.heap.objs.size + 1) :: us ++ []).length = ps.length by rw [List.append_nil]; exact n1)
  rw [List.append_nil] at b1
  have g1 : (X.A.under (.builtin "type.__call__" ⟨.ref C :: us, []⟩)).guards = some [] := by
    unfold Around.under
    simp only [g]
    first | rfl | simp [pushGuards, Code.guards, Code.isGuard, guardIds]
  refine wpAny_call (make_map (f := f) I.kIn M.makes M.init (beq_iff_eq.mp M.fn) (codeAny_mono (F.go _ _ _ _ _ _ _ _ E g1 (hr.make C us []) (I1.env0.make C us []) b1 r1 h1) ?_))
  intro res s' hq
  rcases res with e | fl
  · exact hx _ _ _ _ _ _ I1 hq
  · cases fl
    case ret u =>
      obtain ⟨v, H', I2, rv, ev, q2⟩ := I1.after hq
      subst ev
      exact ⟨rv, ⟨V.ref (s.heap.objs.size + 1), H', I2, rfl, q2⟩⟩
    all_goals exact hq.elim
end
/-- a def that may be called by its name -/
structure Cal (P : Program) (w : World) (K : PySem.W.Frag) (mg : Str → Option Value) (base : Heap) (CX : CXT) (k : Nat) (x : Str) (sp : Sp) : Prop where
  ex : ∃ (f : Addr) (fd : FuncData) (ps : List Str), Fn P w K mg base CX k f fd ps sp ∧ mg x = some (.ref f) ∧ PySem.W.keepIn K (.ref f) = true ∧ Binds K fd ps []
/-- a method of the class at C -/
structure Met (P : Program) (w : World) (K : PySem.W.Frag) (mg : Str → Option Value) (base : Heap) (CX : CXT) (k : Nat) (C : Addr) (m : Str) (sp : Sp) : Prop where
  ex : ∃ (f : Addr) (fd : FuncData) (ps : List Str), Cls K C ∧ Meth K C m f ∧ Fn P w K mg base CX k f fd ps sp ∧ Binds K fd ps []
/-- a class that is made by its name, sp its __init__ -/
structure Mak (P : Program) (w : World) (K : PySem.W.Frag) (mg : Str → Option Value) (base : Heap) (CX : CXT) (k : Nat) (x : Str) (C : Addr) (sp : Sp) : Prop where
  ex : ∃ (f : Addr) (fd : FuncData) (ps : List Str), Mk K C f ∧ Fn P w K mg base CX k f fd ps sp ∧ mg x = some (.ref C) ∧ Binds K fd ps []
section
variable {X : Cx} {CX : CXT} {k j : Nat} {C : Addr} {sp : Sp} {E : XK} {x m : Str} {p pos apos : Pos} {e o : Expr} {es : List Expr} {ta : TE} {t : TA}
def tCl (sp : Sp) (E : XK) (t : TA) : TE := fun σ H Q => t σ H fun vs H1 => sp vs H1 Q E
def tMt (C : Addr) (m : Str) (sp : Sp) (E : XK) (ta : TE) (t : TA) : TE := fun σ H Q => ta σ H fun x H1 => ∃ a dx fs, x = .ref a ∧ H1 a = some (.ins C dx fs) ∧ fs.lookup m = none ∧ t σ H1 fun vs H2 => sp (x :: vs) H2 Q E
def tMk (C : Addr) (sp : Sp) (E : XK) (t : TA) : TE := fun σ H Q => t σ H fun vs H1 => ∀ x dx, H1 x = none → H1 dx = none → dx ≠ x → sp (.ref x :: vs) (upd (upd H1 dx (.own x)) x (.ins C dx [])) (fun v H2 => v = .non ∧ Q (.ref x) H2) E
theorem ec (c : Cal X.prog X.w X.K X.mg X.base CX k x sp) (g : X.A.guards = some []) (hr : Room j X.A) (hk : k ≤ j) (hx : Passes CX X E) (hg : Gl X x) (ha : PA X (e :: es) t)
    (hdb : (x == ("__debug__" : Str)) = false := by decide) (he : starEach (e :: es) X.env = (false, eval e X.env) :: starEach es X.env := by rfl) (hpl : (backTo pos (starEach es X.env)).any (·.1) = false := by rfl) :
    PE X (.Call (.Name x p) (e :: es) [] pos) (tCl sp E t) := by
  obtain ⟨f, fd, ps, F, hm, kp, b⟩ := c.ex
  constructor
  intro pins s σ H Q I h
  apply wpAny_Call_Name_kw
  refine ld_glob I hg hm (PySem.W.callWith_K (h₀ := X.base) I.ok.mod.kin kp (thn (ha.run pos pins s σ H _ I h) ?_) he hpl) hdb
  rintro us s1 ⟨vs, H1, I1, r, q⟩
  exact ⟨I1.kIn, F.ran g (hr.mono hk) b hx I1 r q⟩
theorem emk (c : Mak X.prog X.w X.K X.mg X.base CX k x C sp) (g : X.A.guards = some []) (hr : Room j X.A) (hk : k + 1 ≤ j) (hx : Passes CX X E) (hg : Gl X x) (ha : PA X (e :: es) t)
    (hdb : (x == ("__debug__" : Str)) = false := by decide) (he : starEach (e :: es) X.env = (false, eval e X.env) :: starEach es X.env := by rfl) (hpl : (backTo pos (starEach es X.env)).any (·.1) = false := by rfl) :
    PE X (.Call (.Name x p) (e :: es) [] pos) (tMk C sp E t) := by
  obtain ⟨f, fd, ps, M, F, hm, b⟩ := c.ex
  constructor
  intro pins s σ H Q I h
  apply wpAny_Call_Name_kw
  refine ld_glob I hg hm (PySem.W.callWith_K (h₀ := X.base) I.ok.mod.kin M.kp (thn (ha.run pos pins s σ H _ I h) ?_) he hpl) hdb
  rintro us s1 ⟨vs, H1, I1, r, q⟩
  exact ⟨I1.kIn, F.made M g (hr.mono hk) b hx I1 r q⟩
theorem emt {pl : Sem Bool} (c : Met X.prog X.w X.K X.mg X.base CX k C m sp) (g : X.A.guards = some []) (hr : Room j X.A) (hk : k ≤ j) (hx : Passes CX X E) (he : PE X o ta) (ha : PA X (e :: es) t)
    (hst : starEach (e :: es) X.env = (false, eval e X.env) :: starEach es X.env := by rfl) (hpl : (backTo pos (starEach es X.env)).any (·.1) = false := by rfl)
    (ht : eval (.Call (.Attribute o m apos) (e :: es) [] pos) X.env = (do
      let ov ← eval o X.env
      standAt apos.atName
      let (f, first) ← holding [ov] (getMethod ov m pl)
      callWith pos f first (backTo pos (starEach (e :: es) X.env)) (backToKw pos (keywordEach [] X.env))) := by rfl) :
    PE X (.Call (.Attribute o m apos) (e :: es) [] pos) (tMt C m sp E ta t) := by
  obtain ⟨f, fd, ps, hc, hm, F, b⟩ := c.ex
  constructor
  intro pins s σ H Q I h
  refine PySem.W.methodCall_KW (pl := pl) (thn (he.run pins s σ H _ I h) ?_) ht
  rintro u s1 ⟨x, H1, I1, rx, a, dx, fs, rfl, ea, l, q⟩
  obtain rfl : u = Value.ref a := rx
  refine getmeth_ok I1 ea hc hm l (PySem.W.callWith_K (first := [.ref a]) (h₀ := X.base) I.ok.mod.kin hm.kp (thn (ha.run pos pins s1 σ H1 _ I1 q) ?_) hst hpl)
  rintro us s2 ⟨vs, H2, I2, r, q2⟩
  exact ⟨I2.kIn, F.ran (us := .ref a :: us) (vs := .ref a :: vs) g (hr.mono hk) b hx I2 (.cons rfl r) q2⟩
theorem emt0 {pl : Sem Bool} (c : Met X.prog X.w X.K X.mg X.base CX k C m sp) (g : X.A.guards = some []) (hr : Room j X.A) (hk : k ≤ j) (hx : Passes CX X E) (he : PE X o ta)
    (ht : eval (.Call (.Attribute o m apos) [] [] pos) X.env = (do
      let ov ← eval o X.env
      standAt apos.atName
      let (f, first) ← holding [ov] (getMethod ov m pl)
      callWith pos f first (backTo pos (starEach [] X.env)) (backToKw pos (keywordEach [] X.env))) := by rfl) :
    PE X (.Call (.Attribute o m apos) [] [] pos) (tMt C m sp E ta tNil) := by
  obtain ⟨f, fd, ps, hc, hm, F, b⟩ := c.ex
  constructor
  intro pins s σ H Q I h
  refine PySem.W.methodCall_KW (pl := pl) (thn (he.run pins s σ H _ I h) ?_) ht
  rintro u s1 ⟨x, H1, I1, rx, a, dx, fs, rfl, ea, l, q⟩
  obtain rfl : u = Value.ref a := rx
  exact getmeth_ok I1 ea hc hm l (PySem.W.callWith_K0 (first := [.ref a]) I1.kIn hm.kp (F.ran (us := [.ref a]) (vs := [.ref a]) g (hr.mono hk) b hx I1 (.cons rfl .nil) q))
end
/-! ### a def by its body -/
theorem fnG {CX : CXT} {P : Program} {w : World} {K : PySem.W.Frag} {mg : Str → Option Value} {base : Heap} {k : Nat} {x qual : Str} {st : Stmt} {f : Addr} {fd : FuncData} {N ps : List Str} {sp : Sp} (D : L2.Fun K x qual st f fd) (S : FnScope N ps (defScope st))
    (many : ∀ vs H Q E, sp vs H Q E → vs.length = ps.length)
    (body : ∀ (cdv : Value) (A : Around) (outer : List Env) (s : Shared) (H : Hp) (vs : List V) (Q : VK) (E : XK), A.guards = some [] → Room k (A.deeper (envOfC qual (defScope st) s.heap.objs.size f cdv)) → sp vs H Q E →
      ∃ t, PSs (cxOf CX P w K mg base N qual (defScope st) f cdv A outer s H E) (defBody st) t ∧ t { nx := fun _ H' => Q .non H', rt := Q } (start N vs) H) : Fn P w K mg base CX (k + 1) f fd ps sp := by
  obtain ⟨oc, od, kV, doc, pm, an, cdv, ct, osl, rfl, lk, hcd⟩ := D.ex
  refine ⟨many, ?_⟩
  intro A outer s H args us vs Q E g hr e0 hb r hsp
  have up : ∀ b o, base.get? b = some o → s.heap.get? b = some o := fun b o e => (e0.bs b o e).1
  have kin : K.In s.heap := e0.mod.kin.keeps up
  refine codeAny_call_function hr.depth (kin _ _ lk) rfl S.co S.gen rfl (PySem.W.codeRec_of kin hcd) (hb _ _ _ _ ?_)
  refine wpAny_newFunctionEnv_cells S.kind ?_ ?_
  · rintro ⟨n, v⟩ hy
    have hp := (List.of_mem_zip hy).1
    refine (S.par n hp).imp id fun q => ⟨q, PySem.W.cellsFrom_some _ _ _ (.inl q)⟩
  · rintro env rfl s1 x1
    refine ⟨(e0.mod.nolimit.keeps up).keeps x1.toInCall.keep, codeAny_func ?_⟩
    obtain ⟨t, ht, hq⟩ := body cdv A outer s H vs Q E g (hr.deeper _) hsp
    refine wpAny_mono (ht.run [] s1 (start N vs) H _ (inv_start S hr.hd e0 (many _ _ _ _ hsp) r x1) hq) ?_ (fun e s' hs => hs)
    intro fl s' hs
    cases fl
    case ret u =>
      obtain ⟨v, σ', H', J, rv, q⟩ := hs
      exact ⟨v, H', J.os, J.bare, J.base, J.hok, rv, q⟩
    case next =>
      obtain ⟨σ', H', J, q⟩ := hs
      exact ⟨V.non, H', J.os, J.bare, J.base, J.hok, rfl, q⟩
    case brk => exact (let ⟨_, _, _, q⟩ := hs; False.elim q)
    case cont => exact (let ⟨_, _, _, q⟩ := hs; False.elim q)
theorem fn0G {P : Program} {w : World} {K : PySem.W.Frag} {mg : Str → Option Value} {base : Heap} {k : Nat} {x qual : Str} {st : Stmt} {f : Addr} {fd : FuncData} {N ps : List Str} {sp : Sp} (D : L2.Fun K x qual st f fd) (S : FnScope N ps (defScope st))
    (many : ∀ vs H Q E, sp vs H Q E → vs.length = ps.length)
    (body : ∀ (cdv : Value) (A : Around) (outer : List Env) (s : Shared) (H : Hp) (vs : List V) (Q : VK) (E : XK), A.guards = some [] → Room k (A.deeper (envOfC qual (defScope st) s.heap.objs.size f cdv)) → sp vs H Q E →
      ∃ t, PSs (cxOf CX0 P w K mg base N qual (defScope st) f cdv A outer s H E).nox (defBody st) t ∧ t { nx := fun _ H' => Q .non H', rt := Q } (start N vs) H) : Fn P w K mg base CX0 (k + 1) f fd ps sp :=
  fnG D S many fun cdv A outer s H vs Q E g hr h => let ⟨t, ht, q⟩ := body cdv A outer s H vs Q E g hr h; ⟨t, ht.nox, q⟩
/-- a def of the module as the top left it -/
structure Df (K : PySem.W.Frag) (mg : Str → Option Value) (x : Str) (st : Stmt) (ps : List Str) : Prop where
  ex : ∃ (f : Addr) (fd : FuncData), L2.Fun K x x st f fd ∧ mg x = some (.ref f) ∧ Binds K fd ps []
/-- a method as the top left it -/
structure Md (K : PySem.W.Frag) (C : Addr) (m qual : Str) (st : Stmt) (ps : List Str) : Prop where
  ex : ∃ (f : Addr) (fd : FuncData), L2.Fun K m qual st f fd ∧ Meth K C m f ∧ Binds K fd ps []
section
variable {P : Program} {w : World} {K : PySem.W.Frag} {mg : Str → Option Value} {base : Heap} {k : Nat} {x m qual : Str} {st : Stmt} {N ps : List Str} {sp : Sp} {C : Addr}
theorem Df.cal (D : Df K mg x st ps) (S : FnScope N ps (defScope st)) (many : ∀ vs H Q E, sp vs H Q E → vs.length = ps.length)
    (body : ∀ (f : Addr) (cdv : Value) (A : Around) (outer : List Env) (s : Shared) (H : Hp) (vs : List V) (Q : VK) (E : XK), A.guards = some [] → Room k (A.deeper (envOfC x (defScope st) s.heap.objs.size f cdv)) → sp vs H Q E →
      ∃ t, PSs (cxOf CX0 P w K mg base N x (defScope st) f cdv A outer s H E).nox (defBody st) t ∧ t { nx := fun _ H' => Q .non H', rt := Q } (start N vs) H) : Cal P w K mg base CX0 (k + 1) x sp := by
  obtain ⟨f, fd, F, hm, b⟩ := D.ex
  refine ⟨f, fd, ps, fnG F S many (fun cdv A outer s H vs Q E g hr h => ?_), hm, F.kp, b⟩
  obtain ⟨t, ht, q⟩ := body f cdv A outer s H vs Q E g hr h
  exact ⟨t, ht.nox, q⟩
theorem Md.met (D : Md K C m qual st ps) (c : Cls K C) (S : FnScope N ps (defScope st)) (many : ∀ vs H Q E, sp vs H Q E → vs.length = ps.length)
    (body : ∀ (f : Addr) (cdv : Value) (A : Around) (outer : List Env) (s : Shared) (H : Hp) (vs : List V) (Q : VK) (E : XK), A.guards = some [] → Room k (A.deeper (envOfC qual (defScope st) s.heap.objs.size f cdv)) → sp vs H Q E →
      ∃ t, PSs (cxOf CX0 P w K mg base N qual (defScope st) f cdv A outer s H E).nox (defBody st) t ∧ t { nx := fun _ H' => Q .non H', rt := Q } (start N vs) H) : Met P w K mg base CX0 (k + 1) C m sp := by
  obtain ⟨f, fd, F, hm, b⟩ := D.ex
  refine ⟨f, fd, ps, c, hm, fnG F S many (fun cdv A outer s H vs Q E g hr h => ?_), b⟩
  obtain ⟨t, ht, q⟩ := body f cdv A outer s H vs Q E g hr h
  exact ⟨t, ht.nox, q⟩
theorem Md.mak (D : Md K C "__init__" qual st ps) (hm : mg x = some (.ref C)) (M : ∀ f, Meth K C "__init__" f → Mk K C f) (S : FnScope N ps (defScope st)) (many : ∀ vs H Q E, sp vs H Q E → vs.length = ps.length)
    (body : ∀ (f : Addr) (cdv : Value) (A : Around) (outer : List Env) (s : Shared) (H : Hp) (vs : List V) (Q : VK) (E : XK), A.guards = some [] → Room k (A.deeper (envOfC qual (defScope st) s.heap.objs.size f cdv)) → sp vs H Q E →
      ∃ t, PSs (cxOf CX0 P w K mg base N qual (defScope st) f cdv A outer s H E).nox (defBody st) t ∧ t { nx := fun _ H' => Q .non H', rt := Q } (start N vs) H) : Mak P w K mg base CX0 (k + 1) x C sp := by
  obtain ⟨f, fd, F, me, b⟩ := D.ex
  refine ⟨f, fd, ps, M f me, fnG F S many (fun cdv A outer s H vs Q E g hr h => ?_), hm, b⟩
  obtain ⟨t, ht, q⟩ := body f cdv A outer s H vs Q E g hr h
  exact ⟨t, ht.nox, q⟩
end
end Lf
end
section
set_option Elab.async false
set_option linter.all false
set_option maxRecDepth 100000
set_option maxHeartbeats 4000000
namespace Lf
open PySem PySem.Spec PyProof.Rows L2
/-! ### the law's call -/
/-- the heap at the law's entry, as far as it is told: nothing, or the script alone -/
theorem lawG0 {P : Program} {w : World} {K : PySem.W.Frag} {mg mb : Str → Option Value} {k : Nat} {fa a : Addr} {fd : FuncData} {x : Str} {sp : Sp} {s : Shared} {vs : List Value}
    (KX : K.In s.heap) (hns : s.heap.Ns mainGlobals mg) (hb : s.heap.Ns builtinsNs mb) (hbb : ∀ x : Str, x ≠ "__name__" → mb x = bootBuiltins x) (lim : s.heap.NoLimit) (hg : s.gens = #[])
    (ha : s.heap.get? a = some { cls := .type "list", data := .seq vs.toArray }) (F : ∀ base : Heap, K.In base → base.Ns mainGlobals mg → Fn P w K mg base CX0 k fa fd [x] sp)
    (hbind : ∀ (s : Shared) (u : Value), BindsTo s fd ⟨[u], []⟩ [(x, u)]) (hr : Room k callerA) (H : Hp) (hO : Only H) (hok : HOk P w H s.heap) (hA : ∀ b, H b ≠ none → b = a ∧ K.lookup a = none)
    (hsp : sp [.ref a] H (fun v _ => v = .bl true) fun _ _ _ => False) :
    codeAny (model P w) callerA (.call (.ref fa) ⟨[.ref a], []⟩) (fun r s' => r = .ok (.ret (.bool true)) ∧ OldK s.heap s'.heap ∧ s'.os = s.os ∧ AllBare s'.gens) s := by
  have free : ∀ b, (b = a → False) → H b = none := by
    intro b hb
    cases q : H b with
    | none => rfl
    | some u => exact (hb (hA b (by rw [q]; simp)).1).elim
  have mapped : ∀ {b : Addr} {m : Str → Option Value}, s.heap.Ns b m → (hidT s.heap H).Ns b m := by
    rintro b m ⟨o, es, ep, e, d, r⟩
    refine ⟨o, es, ep, hidT_get e (free b ?_), d, r⟩
    rintro rfl
    rw [ha] at e
    cases e
    cases (show Data.seq vs.toArray _ = Data.dict es ep from d)
  have kin : K.In (hidT s.heap H) := by
    intro b o e
    refine hidT_get (KX b o e) ?_
    cases q : H b with
    | none => rfl
    | some u =>
      obtain ⟨e1, e2⟩ := hA b (by rw [q]; simp)
      rw [e1, e2] at e
      cases e
  obtain ⟨mc, l1, l2⟩ := lim
  have e0 : Env0 P w K mg (hidT s.heap H) callerA [] s H :=
    ⟨rfl, ⟨kin, mapped hns, ⟨mb, mapped hb, hbb⟩, ⟨mc, mapped l1, l2⟩⟩, fun b o e => of_hidT e, Nat.le_of_eq (hidT_size _ _), trivial, fun b hb => (List.not_mem_nil hb).elim, hok, .of_eq hg⟩
  have run := (F _ kin (mapped hns)).go callerA [] s H ⟨[.ref a], []⟩ [.ref a] [.ref a] _ _ rfl hr e0 (hbind s (.ref a)) (.cons rfl .nil) hsp
  refine codeAny_mono run ?_
  intro r s' h
  rcases r with e | fl
  · exact (show False from h).elim
  · cases fl
    case ret u =>
      obtain ⟨v, H', os, bare, un, hok', r', q⟩ := h
      obtain rfl : v = .bl true := q
      obtain rfl : u = Value.bool true := r'
      refine ⟨rfl, OldK.of_keep ?_, os, bare⟩
      intro b o e
      rcases hO b with q | ⟨ob, xs, q⟩
      · exact un.keep b o e q (fun z => (List.not_mem_nil z).elim) (fun z => (List.not_mem_nil z).elim)
      · have e1 := (hok b _ q).1
        have e2 := (hok' b _ (un.frzs b ob _ q)).1
        rw [e] at e1
        cases e1
        exact e2
    all_goals exact (show False from h).elim
theorem lawG {P : Program} {w : World} {K : PySem.W.Frag} {mg mb : Str → Option Value} {k : Nat} {fa a : Addr} {fd : FuncData} {x : Str} {sp : Sp} {s : Shared} {vs : List Value} {ns : List Int}
    (KX : K.In s.heap) (hns : s.heap.Ns mainGlobals mg) (hb : s.heap.Ns builtinsNs mb) (hbb : ∀ x : Str, x ≠ "__name__" → mb x = bootBuiltins x) (lim : s.heap.NoLimit) (hg : s.gens = #[])
    (ha : s.heap.get? a = some { cls := .type "list", data := .seq vs.toArray }) (hi : IntsAre vs ns) (hl : ns.length ≤ sizeLine) (F : ∀ base : Heap, K.In base → base.Ns mainGlobals mg → Fn P w K mg base CX0 k fa fd [x] sp)
    (hbind : ∀ (s : Shared) (u : Value), BindsTo s fd ⟨[u], []⟩ [(x, u)]) (hr : Room k callerA) (hsp : ∀ H : Hp, Only H → SqL K H a (ns.map V.int) → sp [.ref a] H (fun v _ => v = .bl true) fun _ _ _ => False) :
    codeAny (model P w) callerA (.call (.ref fa) ⟨[.ref a], []⟩) (fun r s' => r = .ok (.ret (.bool true)) ∧ OldK s.heap s'.heap ∧ s'.os = s.os ∧ AllBare s'.gens) s := by
  have rv : Vals (ns.map V.int) vs := vals_ints hi
  have many := hi.length
  cases hk : K.lookup a with
  | some o =>
    have e := KX a o hk
    rw [ha] at e
    cases e
    have hS : SqL K (fun _ => none) a (ns.map V.int) := .inr ⟨_, vs.toArray, _, hk, rfl, rfl, rfl, by rw [List.size_toArray, many]; exact hl, by simpa using rv⟩
    exact lawG0 KX hns hb hbb lim hg ha F hbind hr (fun _ => none) (fun _ => .inl rfl) (fun b u z => nomatch (show (none : Option HO) = some u from z)) (fun b z => (z rfl).elim) (hsp _ (fun _ => .inl rfl) hS)
  | none =>
    let H : Hp := upd (fun _ => none) a (.frz { cls := .type "list", data := .seq vs.toArray } (.lst (ns.map V.int)))
    have hH : H a = some (.frz { cls := .type "list", data := .seq vs.toArray } (.lst (ns.map V.int))) := upd_same
    have hN : ∀ b, b ≠ a → H b = none := fun b hb => upd_ne hb
    have hO : Only H := by
      intro b
      by_cases e : b = a
      · subst e
        exact .inr ⟨_, _, hH⟩
      · exact .inl (hN b e)
    refine lawG0 KX hns hb hbb lim hg ha F hbind hr H hO ?_ ?_ (hsp H hO (.inl (.inr ⟨_, hH⟩)))
    · intro b u z
      by_cases e : b = a
      · subst e
        rw [hH] at z
        cases z
        exact ⟨ha, by rw [List.length_map]; exact hl, vs, _, rv, ha⟩
      · rw [hN b e] at z
        cases z
    · intro b z
      refine ⟨?_, hk⟩
      by_cases e : b = a
      · exact e
      · exact (z (hN b e)).elim
/-- the goal that the head leaves, from the law's promise -/
theorem walkG {l : PySem.W.OpenLaw} {k : Nat} {q : Program} {loose : List Str} {XP : (Str → Option Value) → Heap → Prop} {YP : World → Heap → Prop} {d : DefRec} {K : Params → PySem.W.Frag} {sp : World → Sp} {x : Str}
    (hn : l.most = some 63) (hdf : d.params.defaults = []) (hr : Room k callerA) (hY : ∀ (w : World) (h : Heap), YP w h → (K w.params).In h)
    (F : ∀ (w : World) (mg : Str → Option Value) (fa : Addr) (h : Heap), (K w.params).In h → h.Ns mainGlobals mg → mg d.name = some (.ref fa) →
      ∃ fd : FuncData, (∀ (s : Shared) (u : Value), BindsTo s fd ⟨[u], []⟩ [(x, u)]) ∧ ∀ base : Heap, (K w.params).In base → base.Ns mainGlobals mg → Fn l.prog w (K w.params) mg base CX0 k fa fd [x] (sp w))
    (hsp : ∀ (w : World) (H : Hp) (a : Addr) (ns : List Int), ns.length ≤ 63 → Only H → SqL (K w.params) H a (ns.map V.int) → sp w [.ref a] H (fun v _ => v = .bl true) fun _ _ _ => False) :
    PySem.W.WalkO q loose XP YP l.row.toRowW d [] (fun f vs => PySem.call f vs) := by
  refine Att.attach_call hn hdf ?_
  intro w s₀ s₁ mg mb fa o pm cd doc a vs ns G Y ho hd hcd hmg hobj hints hlen hg
  have KX := hY w _ Y
  obtain ⟨fd, hb, hF⟩ := F w mg fa _ KX G.T.g hmg
  exact lawG KX G.T.g G.T.b G.T.builtins G.T.nolimit hg hobj hints (Nat.le_trans hlen (by decide)) hF hb hr (fun H hO hS => hsp w H a ns hlen hO hS)
/-! ### repr of data at any depth -/
section
variable {X : Cx}
def rRepr (K : PySem.W.Frag) : List V → Hp → VK → Prop := fun xs H Q => ∃ v d, xs = [v] ∧ Dp K H v d ∧ d.showable = true ∧ d.hasDict = false ∧ d.depth ≤ 60 ∧ d.shown.length ≤ sizeLine ∧ Q (.str d.shown) H
theorem cr_repr (g : X.A.guards = some []) (hu : X.A.units + 64 < cLine) : CallR X (.builtin "repr") (rRepr X.K) := by
  intro pins s σ H xs us Q I r h
  obtain ⟨v, d, rfl, hd, hs, hnd, hdep, hz, q⟩ := h
  obtain ⟨u, rfl, rv⟩ := vals1 r
  cases hd with
  | non => cases rv; exact PySem.P.repr_of_none ⟨.str _, H, I.tok _, ⟨_, rfl⟩, q⟩
  | bl b =>
    cases rv
    refine PySem.P.repr_of_bool ⟨.str _, H, I.tok _, ⟨_, rfl⟩, ?_⟩
    cases b <;> exact q
  | int i =>
    obtain ⟨t, rfl⟩ := rv
    exact PySem.P.repr_of_int (of_decide_eq_true hs) ⟨.str _, H, I.tok _, ⟨_, rfl⟩, q⟩
  | str x =>
    obtain ⟨t, rfl⟩ := rv
    exact PySem.P.repr_of_str ⟨.str _, H, I.tok _, ⟨_, rfl⟩, q⟩ hz
  | lst h1 h2 =>
    obtain ⟨as, rd⟩ := Dp.reads I _ _ _ (Dp.lst h1 h2) rv
    cases rv
    exact repr_of_reads' rd hs (fun z => by rw [hnd] at z; cases z) g (by omega) (fun b o e => e) (fun h' u tk hk => ⟨.str _, H, I.kept hk, ⟨_, rfl⟩, q⟩) hz
  | tup h1 h2 =>
    obtain ⟨as, rd⟩ := Dp.reads I _ _ _ (Dp.tup h1 h2) rv
    cases rv
    exact repr_of_reads' rd hs (fun z => by rw [hnd] at z; cases z) g (by omega) (fun b o e => e) (fun h' u tk hk => ⟨.str _, H, I.kept hk, ⟨_, rfl⟩, q⟩) hz
end
end Lf
end
section
set_option Elab.async false
set_option linter.all false
set_option maxRecDepth 100000
set_option maxHeartbeats 4000000
namespace Lf
open PySem PySem.Spec PyProof.Rows L2
open Evl
theorem u65 {k : Nat} {A : Around} (hr : Room k A) : A.units + 65 < cLine := by have := hr.un; omega
/-! ### data, kept -/
mutual
theorem dp_ex {K : PySem.W.Frag} {H H' : Hp} (e : Ex H H') : ∀ (d : PyData) (v : V), Dp K H v d → Dp K H' v d
  | .none, _, h => by cases h; exact .non
  | .bool b, _, h => by cases h; exact .bl b
  | .int i, _, h => by cases h; exact .int i
  | .str x, _, h => by cases h; exact .str x
  | .list ds, _, h => by
    cases h with
    | lst h1 h2 => exact .lst (ex_l e h1) (dps_ex e ds _ h2)
  | .tuple ds, _, h => by
    cases h with
    | tup h1 h2 => exact .tup (ex_t e h1) (dps_ex e ds _ h2)
  | .dict _, _, h => by cases h
theorem dps_ex {K : PySem.W.Frag} {H H' : Hp} (e : Ex H H') : ∀ (ds : List PyData) (vs : List V), DpAll K H vs ds → DpAll K H' vs ds
  | [], _, h => by cases h; exact .nil
  | d :: ds, _, h => by
    cases h with
    | cons h1 h2 => exact .cons (dp_ex e d _ h1) (dps_ex e ds _ h2)
end
theorem Dp.ex {K : PySem.W.Frag} {H H' : Hp} {v : V} {d : PyData} (h : Dp K H v d) (e : Ex H H') : Dp K H' v d := dp_ex e d v h
theorem Dps.ex {K : PySem.W.Frag} {H H' : Hp} {vs : List V} {ds : List PyData} (h : DpAll K H vs ds) (e : Ex H H') : DpAll K H' vs ds := dps_ex e ds vs h
theorem dp_list {K : PySem.W.Frag} {H : Hp} {v : V} {ds : List PyData} (h : Dp K H v (.list ds)) : ∃ a xs, v = .ref a ∧ SqL K H a xs ∧ DpAll K H xs ds := by
  cases h with
  | lst h1 h2 => exact ⟨_, _, rfl, h1, h2⟩
theorem dp_tup {K : PySem.W.Frag} {H : Hp} {v : V} {ds : List PyData} (h : Dp K H v (.tuple ds)) : ∃ a xs, v = .ref a ∧ SqT K H a xs ∧ DpAll K H xs ds := by
  cases h with
  | tup h1 h2 => exact ⟨_, _, rfl, h1, h2⟩
theorem dp_int {K : PySem.W.Frag} {H : Hp} {v : V} {i : Int} (h : Dp K H v (.int i)) : v = .int i := by cases h; rfl
theorem Dps.len {K : PySem.W.Frag} {H : Hp} : ∀ {vs : List V} {ds : List PyData}, DpAll K H vs ds → vs.length = ds.length
  | _, _, .nil => rfl
  | _, _, .cons _ t => congrArg (· + 1) (Dps.len t)
theorem Dps.get {K : PySem.W.Frag} {H : Hp} : ∀ {vs : List V} {ds : List PyData} {i : Nat} {v : V}, DpAll K H vs ds → vs[i]? = some v → ∃ d, ds[i]? = some d ∧ Dp K H v d
  | _, _, 0, _, .cons h _, e => by simp at e; subst e; exact ⟨_, rfl, h⟩
  | _, _, i + 1, _, .cons _ t, e => by
    obtain ⟨d, h1, h2⟩ := Dps.get (i := i) t (by simpa using e)
    exact ⟨d, by simpa using h1, h2⟩
theorem Dps.get2 {K : PySem.W.Frag} {H : Hp} : ∀ {vs : List V} {ds : List PyData} {i : Nat} {d : PyData}, DpAll K H vs ds → ds[i]? = some d → ∃ v, vs[i]? = some v ∧ Dp K H v d
  | _, _, 0, _, .cons h _, e => by simp at e; subst e; exact ⟨_, rfl, h⟩
  | _, _, i + 1, _, .cons _ t, e => by
    obtain ⟨d, h1, h2⟩ := Dps.get2 (i := i) t (by simpa using e)
    exact ⟨d, by simpa using h1, h2⟩
theorem Dps.app {K : PySem.W.Frag} {H : Hp} : ∀ {vs ws : List V} {ds es : List PyData}, DpAll K H vs ds → DpAll K H ws es → DpAll K H (vs ++ ws) (ds ++ es)
  | _, _, _, _, .nil, h => h
  | _, _, _, _, .cons h t, h2 => .cons h (Dps.app t h2)
theorem Dps.ints {K : PySem.W.Frag} {H : Hp} : ∀ {ns : List Int}, DpAll K H (ns.map V.int) (ns.map PyData.int)
  | [] => .nil
  | n :: _ => .cons (.int n) Dps.ints
theorem Dps.ints_inv {K : PySem.W.Frag} {H : Hp} : ∀ {ns : List Int} {vs : List V}, DpAll K H vs (ns.map PyData.int) → vs = ns.map V.int
  | [], _, h => by cases h; rfl
  | n :: ns, _, h => by
    cases h with
    | cons h1 h2 =>
      have e1 := dp_int h1
      have e2 := Dps.ints_inv h2
      rw [e1, e2, List.map_cons]
theorem Dps.take {K : PySem.W.Frag} {H : Hp} : ∀ {vs : List V} {ds : List PyData} (n : Nat), DpAll K H vs ds → DpAll K H (vs.take n) (ds.take n)
  | _, _, 0, _ => .nil
  | _, _, _ + 1, .nil => .nil
  | _, _, n + 1, .cons h t => .cons h (Dps.take n t)
theorem Dps.drop {K : PySem.W.Frag} {H : Hp} : ∀ {vs : List V} {ds : List PyData} (n : Nat), DpAll K H vs ds → DpAll K H (vs.drop n) (ds.drop n)
  | _, _, 0, h => h
  | _, _, _ + 1, .nil => .nil
  | _, _, n + 1, .cons _ t => Dps.drop n t
theorem ty_of_l {K : PySem.W.Frag} {H : Hp} {a : Addr} {xs : List V} (h : SqL K H a xs) : TyX K H (.ref a) (.type "list") := by
  rcases h with (h | ⟨o, h⟩) | ⟨o, its, n, h1, h2, _⟩
  · exact .base (.lst h)
  · exact .base (.frz h)
  · exact .kList h1 h2
theorem ty_of_t {K : PySem.W.Frag} {H : Hp} {a : Addr} {xs : List V} (h : SqT K H a xs) : TyX K H (.ref a) (.type "tuple") := by
  rcases h with (h | ⟨o, h⟩) | ⟨o, its, n, h1, h2, _⟩
  · exact .base (.tup h)
  · exact .fTuple h
  · exact .kTuple h1 h2
/-! ### what evaluates to what, for our own calls -/
section
variable {K : PySem.W.Frag} {σ : L2.St} {H H' : Hp} {ta tb te tx : TE} {t u : TT} {x y z v : V} {r : R2}
def SV (sp : Sp) (vs : List V) (H : Hp) (z : V) : Prop := ∀ H1, Ex H H1 → ∀ Q : VK, RetV z H1 Q → ∀ E : XK, sp vs H1 Q E
def SL (sp : Sp) (vs : List V) (H : Hp) (xs : List V) : Prop := ∀ H1, Ex H H1 → ∀ Q : VK, RetL xs H1 Q → ∀ E : XK, sp vs H1 Q E
theorem ev_cl {sp : Sp} {vs : List V} {E : XK} {ta : TA} (h : EvA ta σ H vs) (hs : SV sp vs H z) : Ev (tCl sp E ta) σ H z := fun H1 e Q q =>
  h H1 e _ fun H2 e2 => hs H2 (e.trans e2) Q (fun H3 e3 => q H3 (e2.trans e3)) E
theorem el_cl {sp : Sp} {vs xs : List V} {E : XK} {ta : TA} (h : EvA ta σ H vs) (hs : SL sp vs H xs) : EvL (tCl sp E ta) σ H xs := fun H1 e Q q =>
  h H1 e _ fun H2 e2 => hs H2 (e.trans e2) Q (fun p H3 hp e3 h3 => q p H3 (fresh_back e2 hp) (e2.trans e3) h3) E
theorem ev_mt {C a dx : Addr} {m : Str} {fs : List (Str × V)} {sp : Sp} {vs : List V} {E : XK} {tr : TA} (ho : Ev ta σ H (.ref a)) (hi : H a = some (.ins C dx fs)) (hm : fs.lookup m = none) (h : EvA tr σ H vs) (hs : SV sp (.ref a :: vs) H z) : Ev (tMt C m sp E ta tr) σ H z := fun H1 e Q q =>
  ho H1 e _ fun H2 e2 => ⟨a, dx, fs, rfl, e2 _ _ (e _ _ hi), hm, h H2 (e.trans e2) _ fun H3 e3 => hs H3 ((e.trans e2).trans e3) Q (fun H4 e4 => q H4 ((e2.trans e3).trans e4)) E⟩
theorem el_mt {C a dx : Addr} {m : Str} {fs : List (Str × V)} {sp : Sp} {vs xs : List V} {E : XK} {tr : TA} (ho : Ev ta σ H (.ref a)) (hi : H a = some (.ins C dx fs)) (hm : fs.lookup m = none) (h : EvA tr σ H vs) (hs : SL sp (.ref a :: vs) H xs) : EvL (tMt C m sp E ta tr) σ H xs := fun H1 e Q q =>
  ho H1 e _ fun H2 e2 => ⟨a, dx, fs, rfl, e2 _ _ (e _ _ hi), hm, h H2 (e.trans e2) _ fun H3 e3 => hs H3 ((e.trans e2).trans e3) Q (fun p H4 hp e4 h4 => q p H4 (fresh_back e2 (fresh_back e3 hp)) ((e2.trans e3).trans e4) h4) E⟩
theorem ev_fld {C a dx : Addr} {f : Str} {fs : List (Str × V)} (ho : Ev ta σ H (.ref a)) (hi : H a = some (.ins C dx fs)) (cl : Cls K C) (na : NoAttr K C f) (hl : fs.lookup f = some v) : Ev (tFld K ta f) σ H v := fun H1 e Q q =>
  ho H1 e _ fun H2 e2 => ⟨a, C, dx, fs, v, rfl, e2 _ _ (e _ _ hi), cl, na, hl, q H2 e2⟩
theorem ev_any {bs : List Bool} (h : EvL te σ H (bs.map V.bl)) : Ev (tCB (rAny K) (tCons te tNil)) σ H (.bl (bs.any id)) := fun H1 e Q q =>
  h H1 e _ fun p H2 _ e2 hp => ⟨p, bs, rfl, sq_of hp, q H2 e2⟩
theorem ev_all {bs : List Bool} (h : EvL te σ H (bs.map V.bl)) : Ev (tCB (rAll K) (tCons te tNil)) σ H (.bl (bs.all id)) := fun H1 e Q q =>
  h H1 e _ fun p H2 _ e2 hp => ⟨p, bs, rfl, sq_of hp, q H2 e2⟩
theorem ev_chain {r r' : R2} {tc : TE} {a b : Bool} (ha : Ev ta σ H x) (hb : Ev tb σ H y) (h1 : RV r x y H (.bl a)) (hc : a = true → Ev tc σ H z) (h2 : a = true → RV r' y z H (.bl b)) : Ev (tChain r r' ta tb tc) σ H (.bl (a && b)) := fun H1 e Q q =>
  ha H1 e _ fun H2 e2 => hb H2 (e.trans e2) _ fun H3 e3 => h1 H3 ((e.trans e2).trans e3) _ fun H4 e4 => ⟨a, rfl, by
    cases a with
    | true =>
      refine iteT ?_
      refine hc rfl H4 (((e.trans e2).trans e3).trans e4) _ fun H5 e5 => ?_
      exact h2 rfl H5 ((((e.trans e2).trans e3).trans e4).trans e5) Q fun H6 e6 => q H6 ((((e2.trans e3).trans e4).trans e5).trans e6)
    | false => exact iteF (q H4 ((e2.trans e3).trans e4))⟩
theorem ev_lenL {p : Addr} {xs : List V} (ha : Ev ta σ H (.ref p)) (h : SqL K H p xs) : Ev (tCB (fun xs H Q => ∃ p ys, xs = [V.ref p] ∧ (SqL K H p ys ∨ SqT K H p ys) ∧ Q (.int ys.length) H) (tCons ta tNil)) σ H (.int (xs.length : Int)) := fun H1 e Q q =>
  ha H1 e _ fun H2 e2 => ⟨p, xs, rfl, Or.inl (ex_l (e.trans e2) h), q H2 e2⟩
theorem ev_lenT {p : Addr} {xs : List V} (ha : Ev ta σ H (.ref p)) (h : SqT K H p xs) : Ev (tCB (fun xs H Q => ∃ p ys, xs = [V.ref p] ∧ (SqL K H p ys ∨ SqT K H p ys) ∧ Q (.int ys.length) H) (tCons ta tNil)) σ H (.int (xs.length : Int)) := fun H1 e Q q =>
  ha H1 e _ fun H2 e2 => ⟨p, xs, rfl, Or.inr (ex_t (e.trans e2) h), q H2 e2⟩
theorem ev_lenF {xs : List V} (ha : EvL ta σ H xs) : Ev (tCB (fun xs H Q => ∃ p ys, xs = [V.ref p] ∧ (SqL K H p ys ∨ SqT K H p ys) ∧ Q (.int ys.length) H) (tCons ta tNil)) σ H (.int (xs.length : Int)) := fun H1 e Q q =>
  ha H1 e _ fun p H2 _ e2 hp => ⟨p, xs, rfl, Or.inl (sq_of hp), q H2 e2⟩
theorem el_listL {p : Addr} {xs : List V} (ha : Ev ta σ H (.ref p)) (h : SqL K H p xs) : EvL (tCB (fun xs H Q => ∃ p ys, xs = [V.ref p] ∧ (SqL K H p ys ∨ SqT K H p ys) ∧ ∀ l, H l = none → Q (.ref l) (upd H l (.lst ys))) (tCons ta tNil)) σ H xs := fun H1 e Q q =>
  ha H1 e _ fun H2 e2 => ⟨p, xs, rfl, Or.inl (ex_l (e.trans e2) h), fun l hl => q l _ (fresh_back e2 hl) (e2.trans (Ex.new hl)) upd_same⟩
theorem given_all (n : Nat) (v : Nat → V) : given n (fun _ => true) v = (List.range n).map v := by
  unfold given
  rw [List.filter_eq_self.mpr (fun _ _ => rfl)]
theorem yes_ok {σ : L2.St} {H : Hp} : EvT tYes σ H true := fun H1 _ _ q => q H1 (Ex.refl H1)
/-- [e for x in xs], all, by places -/
theorem el_map {a : Addr} {xs : List V} {tl : TE} {j : Nat} {vs : List Nat} (v : Nat → V) (h : Ev tl σ H (.ref a)) (hx : SqL K H a xs) (hz : xs.length ≤ 40000) (hw : ∀ x, wipe ((wipe σ vs).set j (some x)) vs = wipe σ vs)
    (he : ∀ (i : Nat) (x : V) H1, Ex H H1 → xs[i]? = some x → Ev te ((wipe σ vs).set j (some x)) H1 (v i)) : EvL (tLc (iList K tl) (gName j) tYes te vs) σ H ((List.range xs.length).map v) := by
  rw [← given_all]
  exact el_lcL (fun _ => true) v h hx hz hw (fun _ _ _ _ _ => yes_ok) (fun i x H1 e hi _ => he i x H1 e hi)
theorem el_mapT {a : Addr} {xs : List V} {tl : TE} {j : Nat} {vs : List Nat} (v : Nat → V) (h : Ev tl σ H (.ref a)) (hx : SqT K H a xs) (hz : xs.length ≤ 40000) (hw : ∀ x, wipe ((wipe σ vs).set j (some x)) vs = wipe σ vs)
    (he : ∀ (i : Nat) (x : V) H1, Ex H H1 → xs[i]? = some x → Ev te ((wipe σ vs).set j (some x)) H1 (v i)) : EvL (tLc (iTup K tl) (gName j) tYes te vs) σ H ((List.range xs.length).map v) := by
  rw [← given_all]
  exact fun H0 e Q q => h H0 e _ fun H1 e1 => ⟨a, rfl, ⟨xs, ex_t (e.trans e1) hx⟩, fun Dl hD =>
    lc_tup (xs := xs) (Cw H1 (fun _ => true) v Dl) ⟨hD, Ex.new hD, upd_same⟩ (fun i H' _ p => ex_t ((e.trans e1).trans p.2.1) hx) (fun i x H' hi p => ⟨hw x, cw_turn p (by have := (List.getElem?_eq_some_iff.mp hi).1; omega) yes_ok (fun _ => he i x H1 (e.trans e1) hi)⟩)
      (fun H' p => q Dl H' (fresh_back e1 p.1) (e1.trans p.2.1) p.2.2)⟩
/-- [e for x, y in zip(a, b)], all -/
theorem el_mapZ {ta : TA} {a : Addr} {xs ys : List V} {j1 j2 n : Nat} {vs : List Nat} (v : Nat → V) (hA : ∀ H1, Ex H H1 → ∀ Q : List V → Hp → Prop, (∀ b H2, Ex H1 H2 → SqL K H2 b ys → Q [.ref a, .ref b] H2) → ta σ H1 Q) (hx : SqL K H a xs)
    (hn : n ≤ xs.length ∧ n ≤ ys.length ∧ (xs.length ≤ n ∨ ys.length ≤ n)) (hz : n ≤ 40000) (hw : ∀ x y, wipe (((wipe σ vs).set j1 (some x)).set j2 (some y)) vs = wipe σ vs)
    (he : ∀ (i : Nat) (x y : V) H1, Ex H H1 → xs[i]? = some x → ys[i]? = some y → Ev te (((wipe σ vs).set j1 (some x)).set j2 (some y)) H1 (v i)) : EvL (tLc (iZip K ta) (gTup K 2 (gCons (gName j1) (gCons (gName j2) gNil))) tYes te vs) σ H ((List.range n).map v) := by
  rw [← given_all]
  intro H0 e Q q
  refine hA H0 e _ fun b H1 e1 hy => ⟨a, b, xs, ys, rfl, ex_l (e.trans e1) hx, hy, fun D hD => ?_⟩
  refine ⟨fun i m H' => m = n - i ∧ i ≤ n ∧ Cw H1 (fun _ => true) v D i H', ⟨n, by simp, Nat.zero_le _, hD, Ex.new hD, upd_same⟩, ?_⟩
  rintro i m H' ⟨rfl, hi, p⟩
  have hxs : SqL K H' a xs := ex_l ((e.trans e1).trans p.2.1) hx
  have hys : SqL K H' b ys := ex_l p.2.1 hy
  by_cases hlt : i < n
  · have gx : xs[i]? = some xs[i] := List.getElem?_eq_getElem (by omega)
    have gy : ys[i]? = some ys[i] := List.getElem?_eq_getElem (by omega)
    refine .inr ⟨⟨xs, ys, _, _, hxs, hys, gx, gy⟩, Cw H1 (fun _ => true) v D (i + 1), fun H2 p2 => ⟨n - (i + 1), by omega, rfl, hlt, p2⟩, ?_⟩
    rintro z H2 ⟨T, x, y, rfl, hT, rfl, fx, fy⟩
    have ex := Option.some.inj ((fx _ hxs).symm.trans gx)
    have ey := Option.some.inj ((fy _ hys).symm.trans gy)
    subst ex ey
    have pT : Cw H1 (fun _ => true) v D i (upd H' T (.tup [xs[i], ys[i]])) := ⟨p.1, p.2.1.trans (Ex.new hT), (Ex.new hT) _ _ p.2.2⟩
    refine ⟨T, _, rfl, .inl (.inl upd_same), rfl, _, _, rfl, _, _, rfl, rfl, hw _ _, ?_⟩
    exact cw_turn pT (by omega) yes_ok (fun _ => he i _ _ H1 (e.trans e1) gx gy)
  · have hin : i = n := by omega
    subst hin
    refine .inl ⟨⟨xs, ys, hxs, hys, by omega⟩, ?_⟩
    exact q D H' (fresh_back e1 p.1) (e1.trans p.2.1) p.2.2
end
end Lf
end
section
set_option Elab.async false
set_option linter.all false
set_option maxRecDepth 100000
set_option maxHeartbeats 4000000
/-! the rules with the fragment named (a block's rule must not speak of the block) -/
namespace Lf
open PySem PySem.Spec PyProof.Rows L2
section
variable {X : Cx} {K : PySem.W.Frag}
theorem kop {r : PySem.W.Frag → R2} {f : Value → Value → Sem Value} (h : OpR X f (r X.K)) (e : X.K = K) : OpR X f (r K) := by
  subst e
  exact h
theorem kix {r : PySem.W.Frag → R2} (h : IxR X (r X.K)) (e : X.K = K) : IxR X (r K) := by
  subst e
  exact h
theorem kcr {r : PySem.W.Frag → List V → Hp → VK → Prop} {f : Value} (h : CallR X f (r X.K)) (e : X.K = K) : CallR X f (r K) := by
  subst e
  exact h
theorem ksl {r : PySem.W.Frag → V → Option Int → Option Int → Hp → VK → Prop} (h : SlR X (r X.K)) (e : X.K = K) : SlR X (r K) := by
  subst e
  exact h
theorem kget {r : PySem.W.Frag → V → V → Hp → VK → Prop} (h : PGet X (r X.K)) (e : X.K = K) : PGet X (r K) := by
  subst e
  exact h
def rLen (K : PySem.W.Frag) : List V → Hp → VK → Prop := fun xs H Q => ∃ p ys, xs = [V.ref p] ∧ (SqL K H p ys ∨ SqT K H p ys) ∧ Q (.int ys.length) H
def rLst (K : PySem.W.Frag) : List V → Hp → VK → Prop := fun xs H Q => ∃ p ys, xs = [V.ref p] ∧ (SqL K H p ys ∨ SqT K H p ys) ∧ ∀ l, H l = none → Q (.ref l) (upd H l (.lst ys))
def rTpl (K : PySem.W.Frag) : List V → Hp → VK → Prop := fun xs H Q => ∃ p ys, xs = [V.ref p] ∧ ((SqL K H p ys ∧ ∀ l, H l = none → Q (.ref l) (upd H l (.tup ys))) ∨ (SqT K H p ys ∧ Q (.ref p) H))
theorem k_len (e : X.K = K) : CallR X (.builtin "len") (rLen K) := by
  subst e
  exact call_len_seq
theorem k_lst (e : X.K = K) : CallR X (.type "list") (rLst K) := by
  subst e
  exact call_list_of
theorem k_tpl (e : X.K = K) : CallR X (.type "tuple") (rTpl K) := by
  subst e
  exact call_tuple_of
variable {e o : Expr} {es : List Expr} {pos apos cpos : Pos} {f name : Str} {ta to te : TE} {t : TA} {T id : String} {tg : Expr}
theorem k_fld (k : X.K = K) (he : PE X e ta) (hb : attributeBase e f X.env (eval e X.env) = eval e X.env) : PE X (.Attribute e f pos) (tFld K ta f) := by
  subst k
  exact pe_fld he hb
theorem k_bm0 {r : V → List V → Hp → VK → Prop} (k : X.K = K) (pa : PlainAttrs T) (slot : Slot T name id) (hty : typeOf (.builtin id) = pure (.type "method_descriptor")) (hm : MtR X id r) (ho : PE X o to)
    (hbase : attributeBase o name X.env (eval o X.env) = eval o X.env := by rfl) (hline : (apos.endLine == cpos.line) = true := by rfl) : PE X (.Call (.Attribute o name apos) [] [] cpos) (tBM0 K T r to) := by
  subst k
  exact pe_bm0 pa slot hty hm ho hbase hline
theorem k_bm {r : V → List V → Hp → VK → Prop} (k : X.K = K) (pa : PlainAttrs T) (slot : Slot T name id) (hty : typeOf (.builtin id) = pure (.type "method_descriptor")) (hm : MtR X id r) (ho : PE X o to) (ha : PA X (e :: es) t)
    (hbase : attributeBase o name X.env (eval o X.env) = eval o X.env := by rfl)
    (hfew : ((backTo cpos (starEach (e :: es) X.env)).all (fun x => !x.1) && (backToKw cpos (keywordEach [] X.env)).all (fun x => x.1.isSome)
      && decide ((e :: es).length + ([] : List Keyword).length + (if ([] : List Keyword).isEmpty then 0 else 1) < 30)) = true := by rfl)
    (hline : (apos.endLine == cpos.line) = true := by rfl) (hs : starEach (e :: es) X.env = (false, eval e X.env) :: starEach es X.env := by rfl) (hplain : (backTo cpos (starEach es X.env)).any (·.1) = false := by rfl) :
    PE X (.Call (.Attribute o name apos) (e :: es) [] cpos) (tBM K T r to t) := by
  subst k
  exact pe_bm pa slot hty hm ho ha hbase hfew hline hs hplain
theorem k_list {l : Expr} {tl : TE} (k : X.K = K) (hl : PE X l tl) : PI X tg l (iList K tl) := by
  subst k
  exact pi_list hl
theorem k_tup {l : Expr} {tl : TE} (k : X.K = K) (hl : PE X l tl) : PI X tg l (iTup K tl) := by
  subst k
  exact pi_tup hl
theorem k_gtup {es : List Expr} {kk : Nat} {t : TGs} {n : Nat} (k : X.K = K) (hc : X.calm = true) (h : PGs X es t)
    (hn : (assignEach es X.env).length = n := by rfl) (hst : (assignEach es X.env).findIdx? (·.1) = none := by rfl) : PG X (.Tuple es kk pos) (gTup K n t) := by
  subst k
  exact pg_tup hc h hn hst
theorem k_revL {p1 p2 p3 : Pos} {kk : Nat} (k : X.K = K) (he : PE X e te) : PE X (.Subscript e (.Slice none none (some (.UnaryOp .USub (.Constant (.int 1) kk p1) p2)) p3) pos) (tRevL K te) := by
  subst k
  exact pe_revL he
def tTr (K : PySem.W.Frag) (ta : TE) : TT := fun σ H Q => ta σ H fun x H' => ∃ k, TruV K x H' k ∧ Q k H'
theorem k_truth (k : X.K = K) (h : PE X e ta) (he : ∀ whole, isTrue e X.env whole = (do let v ← whole; standAt e.pos; holding [v] (truthy v))) : PT X e (tTr K ta) := by
  subst k
  exact pt_truth h he
theorem k_enum {p tpos : Pos} {elts : List Expr} {kk : Nat} (k : X.K = K) (hg : Gl X "enumerate") (hm : X.mg "enumerate" = none) (ha : PA X [e] t) (hs : starEach [e] X.env = [(false, eval e X.env)] := by rfl) :
    PI X (.Tuple elts kk tpos) (.Call (.Name "enumerate" p) [e] [] pos) (iEnum K t) := by
  subst k
  exact pi_enum hg hm ha hs
theorem k_zip {p tpos : Pos} {elts : List Expr} {kk : Nat} {e2 : Expr} (k : X.K = K) (hg : Gl X "zip") (hm : X.mg "zip" = none) (ha : PA X [e, e2] t) (hs : starEach [e, e2] X.env = (false, eval e X.env) :: starEach [e2] X.env := by rfl)
    (hpl : (backTo pos (starEach [e2] X.env)).any (·.1) = false := by rfl) : PI X (.Tuple elts kk tpos) (.Call (.Name "zip" p) [e, e2] [] pos) (iZip K t) := by
  subst k
  exact pi_zip hg hm ha hs hpl
end
section
variable {K : PySem.W.Frag} {σ : L2.St} {H H' : Hp} {te : TE} {D : Ends} {tz : TS} {g : TG} {xs : List V} {v : V}
open Evl
theorem q_asgG (h : EvL te σ H xs) (k : ∀ p H1, H p = none → Ex H H1 → H1 p = some (.lst xs) → g (.ref p) σ H1 (tz D)) : tSeq (tAsg te g) tz D σ H := h H (Ex.refl H) _ k
theorem q_forE {a : Addr} {ys : List V} {ta : TA} {tu : TS} {j1 j2 : Nat} (h : EvA ta σ H [.ref a]) (hx : SqL K H a ys) (Pv : Nat → L2.St → Hp → Prop) (h0 : ∀ H1, Ex H H1 → Pv 0 σ H1) (hl : ∀ i σ' H', Pv i σ' H' → SqL K H' a ys)
    (st : ∀ i σ' H' T o, Pv i σ' H' → H' T = none → Pv i σ' (upd H' T o))
    (hs : ∀ (i : Nat) x σ' H', ys[i]? = some x → Pv i σ' H' → tu { D with nx := Pv (i + 1), ct := Pv (i + 1), bk := tz D } ((σ'.set j1 (some (.int (i : Int)))).set j2 (some x)) H') (hd : ∀ σ' H', Pv ys.length σ' H' → tz D σ' H') :
    tSeq (tFor (iEnum K ta) (gTup K 2 (gCons (gName j1) (gCons (gName j2) gNil))) tu) tz D σ H := by
  refine h H (Ex.refl H) _ fun H1 e => ⟨a, ys, rfl, ex_l e hx, ?_⟩
  refine ⟨fun i m σ H => m = ys.length - i ∧ i ≤ ys.length ∧ Pv i σ H, ⟨ys.length, by simp, Nat.zero_le _, h0 H1 e⟩, ?_⟩
  rintro i m σ' H' ⟨rfl, hi, p⟩
  have hq := hl i σ' H' p
  by_cases hlt : i < ys.length
  · have gy : ys[i]? = some ys[i] := List.getElem?_eq_getElem hlt
    refine .inr ⟨⟨ys, _, hq, gy⟩, Pv (i + 1), fun σ2 H2 p2 => ⟨ys.length - (i + 1), by omega, rfl, hlt, p2⟩, ?_⟩
    rintro z H2 ⟨T, x, rfl, hT, rfl, fx⟩
    have ex := Option.some.inj ((fx _ hq).symm.trans gy)
    subst ex
    exact ⟨T, _, rfl, .inl (.inl upd_same), rfl, _, _, rfl, _, _, rfl, rfl, hs i _ σ' _ gy (st _ _ _ _ _ p hT)⟩
  · have e1 : i = ys.length := by omega
    subst e1
    exact .inl ⟨⟨ys, hq, Nat.le_refl _⟩, hd _ _ p⟩
theorem q_asgV (h : Ev te σ H v) (k : ∀ H1, Ex H H1 → g v σ H1 (tz D)) : tSeq (tAsg te g) tz D σ H := h H (Ex.refl H) _ k
end
end Lf
end
section
set_option Elab.async false
set_option linter.all false
set_option maxRecDepth 100000
set_option maxHeartbeats 4000000
/-! Lw: the bag of draws, and what a draw leaves. -/
namespace Lf
open PySem PySem.Spec PyProof.Rows L2
open Evl
/-- the bag at b: what is left of a cell, the stirred number, how many cells were taken, the cells -/
def Bag (H : Hp) (b : Addr × Addr) : Prop := ∃ (x y z : Int) (ns : List Int), H b.1 = some (.lst [.int x, .int y, .int z, .ref b.2]) ∧ H b.2 = some (.lst (ns.map V.int)) ∧ 0 ≤ x ∧ (0 ≤ y ∧ y < 2147483647) ∧ 0 ≤ z ∧ ∀ n ∈ ns, 0 ≤ n
def spTake : Sp := fun vs H Q _ => ∃ (b : Addr × Addr) (many : Int), vs = [.ref b.1, .int many] ∧ Bag H b ∧ (0 < many ∧ many < 1073741824) ∧ ∀ v H', 0 ≤ v → v < many → Bag H' b → (∀ a, a ≠ b.1 → H' a = H a) → Q (.int v) H'
/-- all but the bag -/
def mask (b : Addr) (H : Hp) : Hp := fun a => if a = b then none else H a
theorem mask_at {b a : Addr} {H : Hp} (h : a ≠ b) : mask b H a = H a := if_neg h
theorem mask_self {b : Addr} {H : Hp} : mask b H b = none := if_pos rfl
theorem mask_le (b : Addr) (H : Hp) : Ex (mask b H) H := fun a o h => by
  by_cases e : a = b
  · subst e
    rw [mask_self] at h
    cases h
  · rw [mask_at e] at h
    exact h
theorem mask_ex {b : Addr} {H H' : Hp} (e : Ex H H') : Ex (mask b H) (mask b H') := fun a o h => by
  by_cases q : a = b
  · subst q
    rw [mask_self] at h
    cases h
  · rw [mask_at q] at h
    rw [mask_at q]
    exact e _ _ h
theorem mask_same {b : Addr} {H H' : Hp} (e : ∀ a, a ≠ b → H' a = H a) : Ex (mask b H) (mask b H') := fun a o h => by
  by_cases q : a = b
  · subst q
    rw [mask_self] at h
    cases h
  · rw [mask_at q] at h
    rw [mask_at q, e a q]
    exact h
theorem Bag.ex {b : Addr × Addr} {H H' : Hp} (h : Bag H b) (e : Ex H H') : Bag H' b := by
  obtain ⟨x, y, z, ns, h1, h2, h3⟩ := h
  exact ⟨x, y, z, ns, e _ _ h1, e _ _ h2, h3⟩
theorem Bag.ne {b : Addr × Addr} {p : Addr} {H : Hp} (h : Bag H b) (hp : H p = none) : p ≠ b.1 := by
  obtain ⟨x, y, z, ns, h1, _⟩ := h
  rintro rfl
  rw [h1] at hp
  cases hp
theorem Bag.ne2 {b : Addr × Addr} {p : Addr} {H : Hp} (h : Bag H b) (hp : H p = none) : p ≠ b.2 := by
  obtain ⟨x, y, z, ns, _, h1, _⟩ := h
  rintro rfl
  rw [h1] at hp
  cases hp
/-- what a stretch with draws leaves: the bag is one still, all else is kept -/
def Step (b : Addr × Addr) (H H' : Hp) : Prop := Bag H' b ∧ Ex (mask b.1 H) (mask b.1 H')
theorem Step.refl {b : Addr × Addr} {H : Hp} (h : Bag H b) : Step b H H := ⟨h, Ex.refl _⟩
theorem Step.trans {b : Addr × Addr} {H H1 H2 : Hp} (h : Step b H H1) (h' : Step b H1 H2) : Step b H H2 := ⟨h'.1, h.2.trans h'.2⟩
theorem Step.pure {b : Addr × Addr} {H H' : Hp} (h : Bag H b) (e : Ex H H') : Step b H H' := ⟨h.ex e, mask_ex e⟩
theorem Step.draw {b : Addr × Addr} {H H' : Hp} (h : Bag H' b) (e : ∀ a, a ≠ b.1 → H' a = H a) : Step b H H' := ⟨h, mask_same e⟩
theorem Step.at {b : Addr × Addr} {a : Addr} {H H' : Hp} {o : HO} (h : Step b H H') (hn : a ≠ b.1) (ha : H a = some o) : H' a = some o := by
  have := h.2 a o (by rw [mask_at hn]; exact ha)
  rw [mask_at hn] at this
  exact this
theorem Step.free {b : Addr × Addr} {p : Addr} {H H' : Hp} (h : Step b H H') (hp : H' p = none) : H p = none := by
  have hn := h.1.ne hp
  cases q : H p with
  | none => rfl
  | some o =>
    rw [h.at hn q] at hp
    cases hp
/-- a list of one's own is changed -/
theorem Step.put {b : Addr × Addr} {p : Addr} {H H' : Hp} {o : HO} (h : Step b H H') (hb : Bag H b) (hp : H p = none) : Step b H (upd H' p o) := by
  have hn := hb.ne hp
  have hn2 := hb.ne2 hp
  refine ⟨?_, fun a u ha => ?_⟩
  · obtain ⟨x, y, z, ns, h1, h2, h3⟩ := h.1
    refine ⟨x, y, z, ns, ?_, ?_, h3⟩
    · rw [upd_ne hn.symm]
      exact h1
    · rw [upd_ne hn2.symm]
      exact h2
  · have hap : a ≠ p := by
      rintro rfl
      rw [mask_at hn, hp] at ha
      cases ha
    by_cases q : a = b.1
    · subst q
      rw [mask_self] at ha
      cases ha
    · rw [mask_at q, upd_ne hap]
      have := h.2 a u ha
      rw [mask_at q] at this
      exact this
theorem s_retLst4 {te : TE} {σ : L2.St} {H : Hp} {xs : List V} {x y z : V} {D : Ends} (h : EvL te σ H xs) (k : ∀ c H1, H c = none → Ex H H1 → H1 c = some (.lst xs) → ∀ p, H1 p = none → D.rt (.ref p) (upd H1 p (.lst [x, y, z, .ref c]))) :
    tRet (tLst (tCons (tC x) (tCons (tC y) (tCons (tC z) (tCons te tNil))))) D σ H := h H (Ex.refl H) _ fun c H1 c0 e hc => ⟨(by show 4 ≤ sizeLine; decide), fun p hp => k c H1 c0 e hc p hp⟩
/-! ### tests with some answer -/
def TAny (R : Hp → Hp → Prop) (tt : TT) (σ : L2.St) (H : Hp) : Prop := ∀ Q : Bool → Hp → Prop, (∀ c H2, R H H2 → Q c H2) → tt σ H Q
section
variable {b : Addr × Addr} {σ : L2.St} {H : Hp} {t u : TT} {D : Ends} {ta tb : TS}
theorem tany_ev {c : Bool} (hb : Bag H b) (h : EvT t σ H c) : TAny (Step b) t σ H := fun Q q => h H (Ex.refl H) Q fun H2 e => q c H2 (.pure hb e)
theorem tany_or (h1 : TAny (Step b) t σ H) (h2 : ∀ H2, Step b H H2 → TAny (Step b) u σ H2) : TAny (Step b) (tOr t u) σ H := fun Q q => h1 _ fun c H2 s => by
  cases c with
  | true => exact iteT (q true H2 s)
  | false => exact iteF (h2 H2 s Q fun c H3 s3 => q c H3 (s.trans s3))
theorem tany_and (h1 : TAny (Step b) t σ H) (h2 : ∀ H2, Step b H H2 → TAny (Step b) u σ H2) : TAny (Step b) (tAnd t u) σ H := fun Q q => h1 _ fun c H2 s => by
  cases c with
  | true => exact iteT (h2 H2 s Q fun c H3 s3 => q c H3 (s.trans s3))
  | false => exact iteF (q false H2 s)
theorem s_any (h : TAny (Step b) t σ H) (k : ∀ H2, Step b H H2 → ta D σ H2 ∧ tb D σ H2) : tIfS t ta tb D σ H := h _ fun c H2 s => by
  cases c with
  | true => exact (k H2 s).1
  | false => exact (k H2 s).2
end
end Lf
end
section
set_option Elab.async false
set_option linter.all false
set_option maxRecDepth 100000
set_option maxHeartbeats 4000000
/-! Lt: draws of any size, and what is evaluated amid draws, up to a word of the value. -/
namespace Lf
open PySem PySem.Spec PyProof.Rows L2
open Evl
theorem divW {i j : Int} (h0 : 0 < j) (h : j ≤ 1000000000000000000000000000000) : CDivW i j := wide_div (b := 100) h0 (by
  have e : (2 : Nat) ^ 100 = 1267650600228229401496703205376 := by decide
  rw [e]
  omega) (by decide) (by decide)
def spTk : Sp := fun vs H Q _ => ∃ (b : Addr × Addr) (many : Int), vs = [.ref b.1, .int many] ∧ Bag H b ∧ (0 < many ∧ many ≤ 1000000000000000000000000000000) ∧ ∀ v H', 0 ≤ v → v < many → Bag H' b → (∀ a, a ≠ b.1 → H' a = H a) → Q (.int v) H'
def spBag (K : PySem.W.Frag) : Sp := fun vs H Q _ => ∃ (a : Addr) (ns : List Int), vs = [.ref a] ∧ SqL K H a (ns.map V.int) ∧ ns.length ≤ 63 ∧ ∀ (b : Addr × Addr) (H' : Hp), Ex H H' → H b.1 = none → Bag H' b → Q (.ref b.1) H'
def spLaw (K : PySem.W.Frag) : Sp := fun vs H Q _ => ∃ (a : Addr) (ns : List Int), vs = [.ref a] ∧ SqL K H a (ns.map V.int) ∧ ns.length ≤ 63 ∧ ∀ H', Q (.bl true) H'
/-- e gives an int of which p, with draws -/
def Dr (b : Addr × Addr) (te : TE) (σ : L2.St) (H : Hp) (P : V → Prop) : Prop := ∀ H1, Step b H H1 → ∀ Q : VK, (∀ v H2, Step b H1 H2 → P v → Q v H2) → te σ H1 Q
def DrI (b : Addr × Addr) (te : TE) (σ : L2.St) (H : Hp) (p : Int → Prop) : Prop := ∀ H1, Step b H H1 → ∀ Q : VK, (∀ (i : Int) H2, Step b H1 H2 → p i → Q (.int i) H2) → te σ H1 Q
def DrA (b : Addr × Addr) (ta : TA) (σ : L2.St) (H : Hp) (P : List V → Prop) : Prop := ∀ H1, Step b H H1 → ∀ Q : List V → Hp → Prop, (∀ vs H2, Step b H1 H2 → P vs → Q vs H2) → ta σ H1 Q
section
variable {K : PySem.W.Frag} {b : Addr × Addr} {σ : L2.St} {H H' : Hp} {ta tb te tx : TE} {P P' : V → Prop} {p q r : Int → Prop}
theorem DrI.mono (s : Step b H H') (h : DrI b te σ H p) : DrI b te σ H' p := fun H1 s1 Q q => h H1 (s.trans s1) Q q
theorem Dr.mono (s : Step b H H') (h : Dr b te σ H P) : Dr b te σ H' P := fun H1 s1 Q q => h H1 (s.trans s1) Q q
theorem DrI.imp (h : DrI b te σ H p) (k : ∀ i, p i → q i) : DrI b te σ H q := fun H1 s1 Q w => h H1 s1 Q fun i H2 s2 e => w i H2 s2 (k i e)
theorem dri_of (h : Dr b te σ H fun v => ∃ i, v = .int i ∧ p i) : DrI b te σ H p := fun H1 s Q k => h H1 s Q fun v H2 s2 ⟨i, e, pi⟩ => by
  subst e
  exact k i H2 s2 pi
theorem DrI.dr (h : DrI b te σ H p) : Dr b te σ H fun v => ∃ i, v = .int i ∧ p i := fun H1 s Q k => h H1 s Q fun i H2 s2 pi => k _ H2 s2 ⟨i, rfl, pi⟩
theorem dri_c {i : Int} (h : p i) : DrI b (tC (.int i)) σ H p := fun H1 s Q k => k i H1 (.refl s.1) h
theorem dri_var {i : Int} {n : Nat} (hn : σ[n]? = some (some (.int i))) (h : p i) : DrI b (tVar n) σ H p := fun H1 s Q k => ⟨_, hn, k i H1 (.refl s.1) h⟩
theorem dri_take {E : XK} {n : Nat} {tm : TE} (hn : σ[n]? = some (some (.ref b.1))) (hm : DrI b tm σ H fun m => (0 < m ∧ m ≤ 1000000000000000000000000000000) ∧ ∀ v, 0 ≤ v → v < m → p v) : DrI b (tCl spTk E (tCons (tVar n) (tCons tm tNil))) σ H p := fun H1 s Q k =>
  ⟨_, hn, hm H1 s _ fun m H2 s2 ⟨⟨h0, h1⟩, hp⟩ => ⟨b, m, rfl, s2.1, ⟨h0, h1⟩, fun v H3 v0 v1 b3 d3 => k v H3 (s2.trans (.draw b3 d3)) (hp v v0 v1)⟩⟩
theorem dri_tk {E : XK} {n : Nat} {m : Int} (hn : σ[n]? = some (some (.ref b.1))) (h0 : 0 < m) (h1 : m ≤ 1000000000000000000000000000000) : DrI b (tCl spTk E (tCons (tVar n) (tCons (tC (.int m)) tNil))) σ H fun x => 0 ≤ x ∧ x < m := dri_take hn (dri_c ⟨⟨h0, h1⟩, fun _ v0 v1 => ⟨v0, v1⟩⟩)
theorem dri_tkv {E : XK} {n j : Nat} {m : Int} (hn : σ[n]? = some (some (.ref b.1))) (hj : σ[j]? = some (some (.int m))) (h0 : 0 < m) (h1 : m ≤ 1000000000000000000000000000000) : DrI b (tCl spTk E (tCons (tVar n) (tCons (tVar j) tNil))) σ H fun x => 0 ≤ x ∧ x < m := dri_take hn (dri_var hj ⟨⟨h0, h1⟩, fun _ v0 v1 => ⟨v0, v1⟩⟩)
theorem dri_I0 {g : Int → Int → Int} (h1 : DrI b ta σ H p) (h2 : DrI b tb σ H q) (h : ∀ i j, p i → q j → r (g i j)) : DrI b (tOp (rI0 fun i j => .int (g i j)) ta tb) σ H r := fun H1 s Q k =>
  h1 H1 s _ fun i H2 s2 pi => h2 H2 (s.trans s2) _ fun j H3 s3 qj => ⟨i, j, rfl, rfl, k _ H3 (s2.trans s3) (h i j pi qj)⟩
theorem dri_I {C : Int → Int → Prop} {g : Int → Int → Int} (h1 : DrI b ta σ H p) (h2 : DrI b tb σ H q) (h : ∀ i j, p i → q j → C i j ∧ r (g i j)) : DrI b (tOp (rI C fun i j => .int (g i j)) ta tb) σ H r := fun H1 s Q k =>
  h1 H1 s _ fun i H2 s2 pi => h2 H2 (s.trans s2) _ fun j H3 s3 qj => ⟨i, j, rfl, rfl, (h i j pi qj).1, k _ H3 (s2.trans s3) (h i j pi qj).2⟩
theorem dri_neg (h1 : DrI b ta σ H p) (h : ∀ i, p i → r (-i)) : DrI b (tUn (rU fun i => .int (-i)) ta) σ H r := fun H1 s Q k => h1 H1 s _ fun i H2 s2 pi => ⟨i, rfl, k _ H2 s2 (h i pi)⟩
/-- items of a display, each of which P -/
theorem dra_nil {n : Nat} (h : n = 0) : DrA b tNil σ H fun vs => vs.length = n ∧ ∀ v ∈ vs, P v := fun H1 s Q k => k [] H1 (.refl s.1) ⟨h ▸ rfl, fun v hv => by simp at hv⟩
theorem dra_cons {n : Nat} {ta : TA} (h : Dr b te σ H P) (ht : DrA b ta σ H fun vs => vs.length = n ∧ ∀ v ∈ vs, P v) : DrA b (tCons te ta) σ H fun vs => vs.length = n + 1 ∧ ∀ v ∈ vs, P v := fun H1 s Q k =>
  h H1 s _ fun v H2 s2 pv => ht H2 (s.trans s2) _ fun vs H3 s3 ⟨hl, hp⟩ => k (v :: vs) H3 (s2.trans s3) ⟨by rw [List.length_cons, hl], fun u hu => by
    rcases List.mem_cons.mp hu with rfl | hu
    · exact pv
    · exact hp u hu⟩
theorem atI_in {xs : List V} {i : Int} (h0 : 0 ≤ i) (h1 : i < xs.length) : ∃ v, atI xs i = some v ∧ v ∈ xs := by
  obtain ⟨n, rfl⟩ := Int.eq_ofNat_of_zero_le h0
  have hn : n < xs.length := by omega
  exact ⟨xs[n], atI_nat (by rw [List.getElem?_eq_getElem hn]), List.getElem_mem hn⟩
/-- [a, b, ..][i] -/
theorem dr_pick {n : Nat} {ta : TA} (h : DrA b ta σ H fun vs => vs.length = n ∧ ∀ v ∈ vs, P v) (hi : DrI b tb σ H fun i => 0 ≤ i ∧ i < n) (hn : n ≤ 1000) : Dr b (tOp (rIxL K) (tLst ta) tb) σ H P := fun H1 s Q k =>
  h H1 s _ fun vs H2 s2 ⟨hl, hp⟩ => ⟨Nat.le_trans (by rw [hl]; exact hn) (by decide : (1000 : Nat) ≤ sizeLine), fun l hl0 => hi _ ((s.trans s2).trans (.pure s2.1 (Ex.new hl0))) _ fun i H3 s3 ⟨i0, i1⟩ => by
    have nl : l ≠ b.1 := s2.1.ne hl0
    have hl3 : H3 l = some (.lst vs) := s3.at nl upd_same
    obtain ⟨v, e, hv⟩ := atI_in (xs := vs) i0 (by rw [hl]; exact i1)
    exact ⟨l, vs, i, v, rfl, rfl, sq_of hl3, e, k v H3 ((s2.trans (.pure s2.1 (Ex.new hl0))).trans s3) (hp v hv)⟩⟩
theorem dri_pick {n : Nat} {ta : TA} (h : DrA b ta σ H fun vs => vs.length = n ∧ ∀ v ∈ vs, ∃ i, v = .int i ∧ p i) (hi : DrI b tb σ H fun i => 0 ≤ i ∧ i < n) (hn : n ≤ 1000) : DrI b (tOp (rIxL K) (tLst ta) tb) σ H p := dri_of (dr_pick h hi hn)
theorem ev_dr {v : V} (h : Ev te σ H v) (hb : Bag H b) (hp : P v) (hs : ∀ H1, Step b H H1 → Ev te σ H1 v) : Dr b te σ H P := fun H1 s Q k => hs H1 s H1 (Ex.refl _) Q fun H2 e => k v H2 (.pure s.1 e) hp
variable {D : Ends} {tz : TS} {g : TG}
theorem q_dri (hb : Bag H b) (h : DrI b te σ H p) (k : ∀ i H1, Step b H H1 → p i → g (.int i) σ H1 (tz D)) : tSeq (tAsg te g) tz D σ H := h H (.refl hb) _ k
theorem q_dr (hb : Bag H b) (h : Dr b te σ H P) (k : ∀ v H1, Step b H H1 → P v → g v σ H1 (tz D)) : tSeq (tAsg te g) tz D σ H := h H (.refl hb) _ k
end
end Lf
end
section
set_option Elab.async false
set_option linter.all false
set_option maxRecDepth 100000
set_option maxHeartbeats 4000000
/-! Wm: the mathematics of webs, and their data. -/
namespace Wm
open PySem PySem.Spec PyProof.Rows L2
open Evl
abbrev PS := List (Nat × Nat)
def dP (p : Nat × Nat) : PyData := .tuple [.int p.1, .int p.2]
def dPs (ps : PS) : PyData := .list (ps.map dP)
def dN (ns : List Nat) : PyData := .list (ns.map fun n : Nat => .int (n : Int))
def dNs (rows : List (List Nat)) : PyData := .list (rows.map dN)
def vN (ns : List Nat) : List V := ns.map fun n : Nat => V.int (n : Int)
def lexP (p q : Nat × Nat) : Bool := HT.lexLt [(p.1 : Int), p.2] [(q.1 : Int), q.2]
def lt2 (p q : Nat × Nat) : Prop := p.1 < q.1 ∨ (p.1 = q.1 ∧ p.2 < q.2)
def risesB (ps : PS) : Bool := ((List.range (ps.length - 1)).map fun i => lexP (ps.getD i (0, 0)) (ps.getD (i + 1) (0, 0))).all id
/-- pairs of so many places, the lesser first, rising -/
structure Good (many : Nat) (ps : PS) : Prop where
  m2 : 2 ≤ many
  m10 : many ≤ 10
  lt : ∀ p ∈ ps, p.1 < p.2 ∧ p.2 < many
  pw : ps.Pairwise lt2
  few : ps.length ≤ 1000
theorem lexP_of {p q : Nat × Nat} (h : lt2 p q) : lexP p q = true := by
  unfold lexP
  show (if (p.1 : Int) = q.1 then (if (p.2 : Int) = q.2 then HT.lexLt [] [] else decide ((p.2 : Int) < q.2)) else decide ((p.1 : Int) < q.1)) = true
  rcases h with h | ⟨h1, h2⟩
  · rw [if_neg (by omega), decide_eq_true (by omega)]
  · rw [if_pos (by omega), if_neg (by omega), decide_eq_true (by omega)]
theorem Good.rise {many : Nat} {ps : PS} (g : Good many ps) : risesB ps = true := by
  unfold risesB
  rw [List.all_map, List.all_eq_true]
  intro i hi
  have hi := List.mem_range.mp hi
  have h1 : i < ps.length := by omega
  have h2 : i + 1 < ps.length := by omega
  show lexP (ps.getD i (0, 0)) (ps.getD (i + 1) (0, 0)) = true
  rw [List.getD_eq_getElem?_getD, List.getD_eq_getElem?_getD, List.getElem?_eq_getElem h1, List.getElem?_eq_getElem h2]
  exact lexP_of (List.pairwise_iff_getElem.mp g.pw i (i + 1) h1 h2 (Nat.lt_succ_self i))
def rowOf (ps : PS) (i : Nat) : List Nat := ps.filterMap fun p => if p.1 = i then some p.2 else if p.2 = i then some p.1 else none
def nearOf (many : Nat) (ps : PS) : List (List Nat) := (List.range many).map (rowOf ps)
def adj (ps : PS) (i j : Nat) : Bool := decide (j ∈ rowOf ps i)
def touch (ps : PS) (i j : Nat) : Bool := (rowOf ps i).any fun x => decide (x ∈ rowOf ps j)
def clash (ps : PS) (i j : Nat) : Bool := !decide (i = j) && (adj ps i j || touch ps i j)
/-! ### the least number that is not barred -/
theorem len_ge : ∀ (n : Nat) (b : List Nat), (∀ m, m < n → m ∈ b) → n ≤ b.length
  | 0, _, _ => Nat.zero_le _
  | n + 1, b, h => by
    have h1 := len_ge n (b.erase n) fun m hm => (List.mem_erase_of_ne (by omega)).mpr (h m (by omega))
    rw [List.length_erase_of_mem (h n (by omega))] at h1
    have := List.length_pos_of_mem (h n (by omega))
    omega
def leastFrom (b : List Nat) : Nat → Nat → Nat
  | 0, n => n
  | f + 1, n => if n ∈ b then leastFrom b f (n + 1) else n
def least (b : List Nat) : Nat := leastFrom b (b.length + 1) 0
theorem leastFrom_spec (b : List Nat) : ∀ (f n : Nat), b.length < f + n → (∀ m, m < n → m ∈ b) → leastFrom b f n ∉ b ∧ ∀ m, m < leastFrom b f n → m ∈ b
  | 0, n, hf, h => by have := len_ge n b h; omega
  | f + 1, n, hf, h => by
    unfold leastFrom
    by_cases e : n ∈ b
    · rw [if_pos e]
      exact leastFrom_spec b f (n + 1) (by omega) fun m hm => by
        by_cases q : m = n
        · exact q ▸ e
        · exact h m (by omega)
    · rw [if_neg e]
      exact ⟨e, h⟩
theorem least_not (b : List Nat) : least b ∉ b := (leastFrom_spec b (b.length + 1) 0 (by omega) (by omega)).1
theorem least_in (b : List Nat) : ∀ m, m < least b → m ∈ b := (leastFrom_spec b (b.length + 1) 0 (by omega) (by omega)).2
theorem least_le (b : List Nat) : least b ≤ b.length := len_ge _ b (least_in b)
theorem least_eq {b : List Nat} {n : Nat} (h1 : n ∉ b) (h2 : ∀ m, m < n → m ∈ b) : least b = n := by
  rcases Nat.lt_trichotomy n (least b) with h | h | h
  · exact absurd (least_in b n h) h1
  · exact h.symm
  · exact absurd (h2 _ h) (least_not b)
/-! ### slots -/
def slotsUpto (ps : PS) : Nat → List Nat
  | 0 => []
  | n + 1 => slotsUpto ps n ++ [least (((List.range n).filter fun l => clash ps l n).map fun l => (slotsUpto ps n).getD l 0)]
theorem slots_len (ps : PS) : ∀ n, (slotsUpto ps n).length = n
  | 0 => rfl
  | n + 1 => by
    show (slotsUpto ps n ++ _).length = n + 1
    rw [List.length_append, slots_len ps n]
    rfl
/-! ### values -/
theorem inV_nat (n : Nat) (b : List Nat) : inV (.int (n : Int)) (vN b) = decide (n ∈ b) := by
  unfold vN
  induction b with
  | nil => rfl
  | cons x r ih =>
    show (eqV (V.int (x : Int)) (.int (n : Int)) || inV (.int (n : Int)) (r.map fun n : Nat => V.int (n : Int))) = _
    rw [ih]
    by_cases e : n = x
    · subst e
      simp [eqV]
    · have e2 : ¬ ((x : Int) = (n : Int)) := fun q => e (by omega)
      simp [eqV, e, e2, List.mem_cons]
theorem vN_flat (b : List Nat) : (vN b).all flatV = true := by
  unfold vN
  induction b with
  | nil => rfl
  | cons x r ih => rw [List.map_cons, List.all_cons, ih]; rfl
theorem vN_len (b : List Nat) : (vN b).length = b.length := List.length_map ..
theorem vN_get {b : List Nat} {i n : Nat} (h : b[i]? = some n) : (vN b)[i]? = some (.int (n : Int)) := by
  unfold vN
  rw [List.getElem?_map, h]
  rfl
theorem vN_inv {K : PySem.W.Frag} {H : Hp} {ns : List Nat} {vs : List V} (h : DpAll K H vs (ns.map fun n : Nat => PyData.int (n : Int))) : vs = vN ns := by
  have e : (ns.map fun n : Nat => PyData.int (n : Int)) = (ns.map fun n : Nat => (n : Int)).map PyData.int := by rw [List.map_map]; rfl
  rw [e] at h
  rw [Lf.Dps.ints_inv h, List.map_map]
  rfl
theorem dN_list {K : PySem.W.Frag} {H : Hp} {ns : List Nat} {v : V} (h : Dp K H v (dN ns)) : ∃ a, v = .ref a ∧ SqL K H a (vN ns) := by
  obtain ⟨a, xs, e, h1, h2⟩ := Lf.dp_list h
  rw [vN_inv h2] at h1
  exact ⟨a, e, h1⟩
theorem vN_dps {K : PySem.W.Frag} {H : Hp} : ∀ ns : List Nat, DpAll K H (vN ns) (ns.map fun n : Nat => PyData.int (n : Int))
  | [] => .nil
  | n :: ns => .cons (.int _) (vN_dps ns)
theorem dP_tup {K : PySem.W.Frag} {H : Hp} {p : Nat × Nat} {v : V} (h : Dp K H v (dP p)) : ∃ a, v = .ref a ∧ SqT K H a [.int p.1, .int p.2] := by
  obtain ⟨a, xs, e, h1, h2⟩ := Lf.dp_tup h
  have e2 := Lf.Dps.ints_inv (ns := [(p.1 : Int), p.2]) h2
  rw [e2] at h1
  exact ⟨a, e, h1⟩
theorem dPs_list {K : PySem.W.Frag} {H : Hp} {ps : PS} {v : V} (h : Dp K H v (dPs ps)) : ∃ a xs, v = .ref a ∧ SqL K H a xs ∧ xs.length = ps.length ∧ ∀ (i : Nat) (x : V), xs[i]? = some x → ∃ p t, ps[i]? = some p ∧ x = .ref t ∧ SqT K H t [.int p.1, .int p.2] := by
  obtain ⟨a, xs, e, h1, h2⟩ := Lf.dp_list h
  refine ⟨a, xs, e, h1, by rw [Lf.Dps.len h2, List.length_map], fun i x hx => ?_⟩
  obtain ⟨d, hd, hp⟩ := Lf.Dps.get h2 hx
  rw [List.getElem?_map] at hd
  obtain ⟨p, e1, rfl⟩ := Option.map_eq_some_iff.mp hd
  obtain ⟨t, e2, h3⟩ := dP_tup hp
  exact ⟨p, t, e1, e2, h3⟩
theorem dNs_list {K : PySem.W.Frag} {H : Hp} {rows : List (List Nat)} {v : V} (h : Dp K H v (dNs rows)) : ∃ a xs, v = .ref a ∧ SqL K H a xs ∧ xs.length = rows.length ∧ ∀ (i : Nat) (row : List Nat), rows[i]? = some row → ∃ t, xs[i]? = some (.ref t) ∧ SqL K H t (vN row) := by
  obtain ⟨a, xs, e, h1, h2⟩ := Lf.dp_list h
  refine ⟨a, xs, e, h1, by rw [Lf.Dps.len h2, List.length_map], fun i row hr => ?_⟩
  obtain ⟨x, hx, hp⟩ := Lf.Dps.get2 h2 (i := i) (d := dN row) (by rw [List.getElem?_map, hr]; rfl)
  obtain ⟨t, e2, h3⟩ := dN_list hp
  exact ⟨t, by rw [hx, e2], h3⟩
/-- all items but the first -/
theorem cut1 (xs : List V) : cutV xs (some 1) none = xs.drop 1 := by
  unfold cutV
  have e1 : HT.sIx xs.length 0 (some 1) = min 1 xs.length := HT.sIx_nat xs.length 0 1
  rw [e1, HT.sIx_none]
  cases xs with
  | nil => rfl
  | cons x r =>
    have e2 : min 1 (x :: r).length = 1 := by
      rw [List.length_cons]
      omega
    rw [e2]
    show List.take ((x :: r).length - 1) r = r
    rw [List.length_cons, Nat.add_sub_cancel, List.take_length]
/-- a list of data by its places -/
theorem dps_of {K : PySem.W.Frag} {H : Hp} : ∀ {vs : List V} {ds : List PyData}, vs.length = ds.length → (∀ (i : Nat) v d, vs[i]? = some v → ds[i]? = some d → Dp K H v d) → DpAll K H vs ds
  | [], [], _, _ => .nil
  | [], _ :: _, h, _ => by cases h
  | _ :: _, [], h, _ => by cases h
  | v :: vs, d :: ds, h, f => .cons (f 0 v d rfl rfl) (dps_of (by simpa using h) fun i v' d' h1 h2 => f (i + 1) v' d' (by simpa using h1) (by simpa using h2))
end Wm
end
section
set_option Elab.async false
set_option linter.all false
set_option maxRecDepth 100000
set_option maxHeartbeats 4000000
namespace Wm
open PySem PySem.Spec PyProof.Rows L2 Lf
open Evl
/-! ### what may be compared and shown -/
theorem canAll : ∀ {ds : List PyData}, (∀ d ∈ ds, PyData.canLay0 d = true) → PyData.canLayAll0 ds = true
  | [], _ => rfl
  | d :: ds, h => by
    show (PyData.canLay0 d && PyData.canLayAll0 ds) = true
    rw [h d List.mem_cons_self, canAll fun e he => h e (List.mem_cons_of_mem _ he)]
    rfl
theorem depAll {n : Nat} : ∀ {ds : List PyData}, (∀ d ∈ ds, PyData.depth d ≤ n) → PyData.depthAll ds ≤ n
  | [], _ => Nat.zero_le _
  | d :: ds, h => by
    show max (PyData.depth d) (PyData.depthAll ds) ≤ n
    have h1 := h d List.mem_cons_self
    have h2 := depAll fun e he => h e (List.mem_cons_of_mem _ he)
    omega
/-- data of depth n at most -/
structure Sh (n : Nat) (d : PyData) : Prop where
  can : PyData.canLay0 d = true
  dep : PyData.depth d ≤ n
theorem Sh.mono {m n : Nat} {d : PyData} (h : Sh m d) (e : m ≤ n) : Sh n d := ⟨h.can, Nat.le_trans h.dep e⟩
theorem Sh.shaped {n : Nat} {d : PyData} (h : Sh n d) (e : n ≤ 64) : SeqAt.shaped d = true := by
  show (PyData.canLay0 d && decide (PyData.depth d ≤ 64)) = true
  rw [h.can, decide_eq_true (Nat.le_trans h.dep e)]
  rfl
theorem Sh.int (i : Int) : Sh 0 (.int i) := ⟨rfl, Nat.le_refl _⟩
theorem Sh.non : Sh 0 .none := ⟨rfl, Nat.le_refl _⟩
theorem Sh.bl (b : Bool) : Sh 0 (.bool b) := ⟨rfl, Nat.le_refl _⟩
theorem Sh.list {n : Nat} {ds : List PyData} (h : ∀ d ∈ ds, Sh n d) : Sh (n + 1) (.list ds) := ⟨canAll fun d hd => (h d hd).can, Nat.succ_le_succ (depAll fun d hd => (h d hd).dep)⟩
theorem Sh.tup {n : Nat} {ds : List PyData} (h : ∀ d ∈ ds, Sh n d) : Sh (n + 1) (.tuple ds) := ⟨canAll fun d hd => (h d hd).can, Nat.succ_le_succ (depAll fun d hd => (h d hd).dep)⟩
theorem sh_dP (p : Nat × Nat) : Sh 1 (dP p) := Sh.tup (n := 0) fun d hd => by
  rcases List.mem_cons.mp hd with rfl | hd
  · exact Sh.int _
  · rcases List.mem_cons.mp hd with rfl | hd
    · exact Sh.int _
    · cases hd
theorem sh_dPs (ps : PS) : Sh 2 (dPs ps) := Sh.list fun d hd => by
  obtain ⟨p, _, rfl⟩ := List.mem_map.mp hd
  exact sh_dP p
theorem sh_dN (ns : List Nat) : Sh 1 (dN ns) := Sh.list fun d hd => by
  obtain ⟨p, _, rfl⟩ := List.mem_map.mp hd
  exact Sh.int _
theorem sh_dNs (rows : List (List Nat)) : Sh 2 (dNs rows) := Sh.list fun d hd => by
  obtain ⟨p, _, rfl⟩ := List.mem_map.mp hd
  exact sh_dN p
theorem non_dPs (ps : PS) : ((ps.map dP).any fun z => PyData.eqv z .none) = false := by
  rw [List.any_eq_false]
  intro d hd
  obtain ⟨p, _, rfl⟩ := List.mem_map.mp hd
  exact fun h => Bool.noConfusion h
/-! ### a list of pairs whose tuples are told -/
def PairsIn (H : Hp) (ws : List V) (ps : PS) : Prop := ws.length = ps.length ∧ ∀ (i : Nat) (p : Nat × Nat), ps[i]? = some p → ∃ t, ws[i]? = some (.ref t) ∧ H t = some (.tup [.int p.1, .int p.2])
theorem PairsIn.ex {H H' : Hp} {ws : List V} {ps : PS} (h : PairsIn H ws ps) (e : Ex H H') : PairsIn H' ws ps := ⟨h.1, fun i p hp => let ⟨t, h1, h2⟩ := h.2 i p hp; ⟨t, h1, e _ _ h2⟩⟩
theorem PairsIn.upd {H : Hp} {ws us vs : List V} {ps : PS} {D : Addr} (h : PairsIn H ws ps) (hD : H D = some (.lst us)) : PairsIn (upd H D (.lst vs)) ws ps := ⟨h.1, fun i p hp => by
  obtain ⟨t, h1, h2⟩ := h.2 i p hp
  refine ⟨t, h1, ?_⟩
  rw [upd_ne (ne_of h2 hD (by intro z; cases z))]
  exact h2⟩
theorem PairsIn.nil (H : Hp) : PairsIn H [] [] := ⟨rfl, fun i p hp => by simp at hp⟩
theorem PairsIn.snoc {H : Hp} {ws : List V} {ps : PS} {t : Addr} {p : Nat × Nat} (h : PairsIn H ws ps) (ht : H t = some (.tup [.int p.1, .int p.2])) : PairsIn H (ws ++ [.ref t]) (ps ++ [p]) := by
  refine ⟨by rw [List.length_append, List.length_append, h.1] <;> rfl, fun i q hq => ?_⟩
  by_cases hi : i < ps.length
  · rw [List.getElem?_append_left hi] at hq
    obtain ⟨u, h1, h2⟩ := h.2 i q hq
    exact ⟨u, by rw [List.getElem?_append_left (by rw [h.1]; exact hi)]; exact h1, h2⟩
  · rw [List.getElem?_append_right (by omega)] at hq
    have e0 : i - ps.length = 0 := by
      have := (List.getElem?_eq_some_iff.mp hq).1
      simp at this
      omega
    rw [e0] at hq
    have e1 : p = q := Option.some.inj hq
    subst e1
    refine ⟨t, ?_, ht⟩
    rw [List.getElem?_append_right (by rw [h.1]; omega), h.1, e0]
    rfl
theorem PairsIn.dps {K : PySem.W.Frag} {H : Hp} {ws : List V} {ps : PS} (h : PairsIn H ws ps) : DpAll K H ws (ps.map dP) := by
  refine dps_of (by rw [h.1, List.length_map]) fun i v d h1 h2 => ?_
  rw [List.getElem?_map] at h2
  obtain ⟨p, e1, rfl⟩ := Option.map_eq_some_iff.mp h2
  obtain ⟨t, e2, h3⟩ := h.2 i p e1
  rw [h1] at e2
  cases e2
  exact .tup (.inl (.inl h3)) (.cons (.int _) (.cons (.int _) .nil))
theorem PairsIn.dp {K : PySem.W.Frag} {H : Hp} {a : Addr} {ws : List V} {ps : PS} (h : PairsIn H ws ps) (ha : SqL K H a ws) : Dp K H (.ref a) (dPs ps) := .lst ha h.dps
/-! ### rows of numbers in lists of their own -/
def RowsIn (H : Hp) (ws : List V) (rows : List (List Nat)) : Prop := ws.length = rows.length ∧ (∀ (i : Nat) (row : List Nat), rows[i]? = some row → ∃ t, ws[i]? = some (.ref t) ∧ H t = some (.lst (vN row))) ∧ ∀ (i j : Nat) (t : Addr), ws[i]? = some (.ref t) → ws[j]? = some (.ref t) → i = j
theorem RowsIn.dps {K : PySem.W.Frag} {H : Hp} {ws : List V} {rows : List (List Nat)} (h : RowsIn H ws rows) : DpAll K H ws (rows.map dN) := by
  refine dps_of (by rw [h.1, List.length_map]) fun i v d h1 h2 => ?_
  rw [List.getElem?_map] at h2
  obtain ⟨row, e1, rfl⟩ := Option.map_eq_some_iff.mp h2
  obtain ⟨t, e2, h3⟩ := h.2.1 i row e1
  rw [h1] at e2
  cases e2
  exact .lst (.inl (.inl h3)) (vN_dps row)
theorem RowsIn.put {H : Hp} {ws : List V} {rows : List (List Nat)} {i n : Nat} {row : List Nat} {t : Addr} (h : RowsIn H ws rows) (hr : rows[i]? = some row) (ht : ws[i]? = some (.ref t)) : RowsIn (upd H t (.lst (vN row ++ [.int (n : Int)]))) ws (rows.set i (row ++ [n])) := by
  refine ⟨by rw [List.length_set]; exact h.1, fun j row' hj => ?_, h.2.2⟩
  by_cases e : i = j
  · subst e
    rw [List.getElem?_set_self (List.getElem?_eq_some_iff.mp hr).1] at hj
    cases hj
    refine ⟨t, ht, ?_⟩
    rw [upd_same]
    unfold vN
    rw [List.map_append]
    rfl
  · rw [List.getElem?_set_ne e] at hj
    obtain ⟨u, h1, h2⟩ := h.2.1 j row' hj
    refine ⟨u, h1, ?_⟩
    have nut : u ≠ t := fun q => e (h.2.2 i j t ht (by rw [← q]; exact h1))
    rw [upd_ne nut]
    exact h2
/-- the rows behind some pairs -/
def rowsUpto (many : Nat) (ps : PS) (k : Nat) : List (List Nat) := (List.range many).map (rowOf (ps.take k))
theorem rowOf_snoc (ps : PS) (p : Nat × Nat) (i : Nat) : rowOf (ps ++ [p]) i = rowOf ps i ++ (if p.1 = i then [p.2] else if p.2 = i then [p.1] else []) := by
  unfold rowOf
  rw [List.filterMap_append]
  congr 1
  by_cases h1 : p.1 = i
  · simp [h1]
  · by_cases h2 : p.2 = i
    · simp [h1, h2]
    · simp [h1, h2]
theorem set_range {α : Type} (n i : Nat) (f : Nat → α) (x : α) (hi : i < n) : ((List.range n).map f).set i x = (List.range n).map fun j => if i = j then x else f j := by
  refine List.ext_getElem? fun j => ?_
  by_cases e : i = j
  · subst e
    rw [List.getElem?_set_self (by simpa using hi), List.getElem?_map, List.getElem?_range hi]
    simp
  · rw [List.getElem?_set_ne e, List.getElem?_map, List.getElem?_map]
    cases h : (List.range n)[j]? with
    | none => rfl
    | some k =>
      have hk : k = j := by
        have := List.getElem?_eq_some_iff.mp h
        obtain ⟨h1, h2⟩ := this
        rw [List.getElem_range] at h2
        exact h2.symm
      subst hk
      simp [e]
theorem rows_step {many k : Nat} {ps : PS} {a b : Nat} (hk : ps[k]? = some (a, b)) (hab : a < b) (hb : b < many) :
    ((rowsUpto many ps k).set a (rowOf (ps.take k) a ++ [b])).set b (rowOf (ps.take k) b ++ [a]) = rowsUpto many ps (k + 1) := by
  unfold rowsUpto
  rw [set_range _ _ _ _ (by omega), set_range _ _ _ _ hb]
  have e : ps.take (k + 1) = ps.take k ++ [(a, b)] := by
    rw [List.take_add_one, hk]
    rfl
  rw [e]
  refine List.map_congr_left fun j _ => ?_
  rw [rowOf_snoc]
  by_cases h1 : b = j
  · subst h1
    have h2 : ¬ a = b := by omega
    simp [h2]
  · by_cases h2 : a = j
    · subst h2
      simp [h1]
    · simp [h1, h2]
theorem near_all (many : Nat) (ps : PS) : rowsUpto many ps ps.length = nearOf many ps := by
  unfold rowsUpto nearOf
  rw [List.take_length]
theorem rows_zero (many : Nat) (ps : PS) : rowsUpto many ps 0 = List.replicate many [] := by
  unfold rowsUpto
  refine List.ext_getElem? fun j => ?_
  rw [List.getElem?_map, List.getElem?_replicate]
  by_cases h : j < many
  · rw [List.getElem?_range h, if_pos h]
    rfl
  · rw [List.getElem?_eq_none (by simpa using h), if_neg h]
    rfl
end Wm
end
section
set_option Elab.async false
set_option linter.all false
set_option maxRecDepth 100000
set_option maxHeartbeats 4000000
namespace Wm
open PySem PySem.Spec PyProof.Rows L2 Lf
open Evl
/-! ### a web's object -/
def webF (m : Nat) (a1 a2 : Addr) : List (Str × V) := [(("_many" : Str), V.int (m : Int)), (("_pairs" : Str), V.ref a1), (("_near" : Str), V.ref a2)]
def WebAt (K : PySem.W.Frag) (C : Addr) (H : Hp) (p : Addr) (m : Nat) (ps : PS) : Prop := Good m ps ∧ ∃ dx a1 a2, H p = some (.ins C dx (webF m a1 a2)) ∧ Dp K H (.ref a1) (dPs ps) ∧ Dp K H (.ref a2) (dNs (nearOf m ps))
theorem WebAt.ex {K : PySem.W.Frag} {C : Addr} {H H' : Hp} {p : Addr} {m : Nat} {ps : PS} (h : WebAt K C H p m ps) (e : Ex H H') : WebAt K C H' p m ps := by
  obtain ⟨g, dx, a1, a2, h1, h2, h3⟩ := h
  exact ⟨g, dx, a1, a2, e _ _ h1, Dp.ex h2 e, Dp.ex h3 e⟩
theorem webF_put (m : Nat) (a1 a2 : Addr) : putF "_near" (.ref a2) (putF "_pairs" (.ref a1) (putF "_many" (.int (m : Int)) [])) = webF m a1 a2 := by
  have n1 : ¬ (("_many" : Str) = "_pairs") := by decide +kernel
  have n2 : ¬ (("_many" : Str) = "_near") := by decide +kernel
  have n3 : ¬ (("_pairs" : Str) = "_near") := by decide +kernel
  show putF "_near" (.ref a2) (putF "_pairs" (.ref a1) [(("_many" : Str), V.int (m : Int))]) = _
  have e1 : putF "_pairs" (.ref a1) [(("_many" : Str), V.int (m : Int))] = [(("_many" : Str), V.int (m : Int)), (("_pairs" : Str), V.ref a1)] := by
    show (if ("_many" : Str) = "_pairs" then _ else _) = _
    rw [if_neg n1]
    rfl
  rw [e1]
  show (if ("_many" : Str) = "_near" then _ else _ :: (if ("_pairs" : Str) = "_near" then _ else _ :: putF "_near" (.ref a2) [])) = _
  rw [if_neg n2, if_neg n3]
  rfl
theorem webF_many (m : Nat) (a1 a2 : Addr) : (webF m a1 a2).lookup ("_many" : Str) = some (.int (m : Int)) := by
  rw [← webF_put, lookup_putF, if_neg (by decide +kernel), lookup_putF, if_neg (by decide +kernel), lookup_putF, if_pos rfl]
theorem webF_pairs (m : Nat) (a1 a2 : Addr) : (webF m a1 a2).lookup ("_pairs" : Str) = some (.ref a1) := by
  rw [← webF_put, lookup_putF, if_neg (by decide +kernel), lookup_putF, if_pos rfl]
theorem webF_near (m : Nat) (a1 a2 : Addr) : (webF m a1 a2).lookup ("_near" : Str) = some (.ref a2) := by
  rw [← webF_put, lookup_putF, if_pos rfl]
theorem webF_no (m : Nat) (a1 a2 : Addr) {x : Str} (h1 : ¬ x = "_many") (h2 : ¬ x = "_pairs") (h3 : ¬ x = "_near") : (webF m a1 a2).lookup x = none := by
  rw [← webF_put, lookup_putF, if_neg h3, lookup_putF, if_neg h2, lookup_putF, if_neg h1]
  rfl
/-! ### data does not hang on an instance -/
theorem rd_ins {H : Hp} {x C dx a : Addr} {fs : List (Str × V)} {o u : HO} (hx : H x = some (.ins C dx fs)) (hu : ∀ C dx fs, u ≠ .ins C dx fs) (h : Rd H a u) : Rd (upd H x o) a u := by
  rcases h with h | ⟨ob, h⟩
  · refine .inl ?_
    rw [upd_ne (ne_of h hx (hu C dx fs))]
    exact h
  · refine .inr ⟨ob, ?_⟩
    rw [upd_ne (ne_of h hx (by intro z; cases z))]
    exact h
mutual
theorem dp_ins {K : PySem.W.Frag} {H : Hp} {x C dx : Addr} {fs : List (Str × V)} {o : HO} (hx : H x = some (.ins C dx fs)) : ∀ (d : PyData) (v : V), Dp K H v d → Dp K (upd H x o) v d
  | .none, _, h => by cases h; exact .non
  | .bool b, _, h => by cases h; exact .bl b
  | .int i, _, h => by cases h; exact .int i
  | .str x, _, h => by cases h; exact .str x
  | .list ds, _, h => by
    cases h with
    | lst h1 h2 => exact .lst (h1.imp (rd_ins hx (by intro _ _ _ z; cases z)) id) (dps_ins hx ds _ h2)
  | .tuple ds, _, h => by
    cases h with
    | tup h1 h2 => exact .tup (h1.imp (rd_ins hx (by intro _ _ _ z; cases z)) id) (dps_ins hx ds _ h2)
  | .dict _, _, h => by cases h
theorem dps_ins {K : PySem.W.Frag} {H : Hp} {x C dx : Addr} {fs : List (Str × V)} {o : HO} (hx : H x = some (.ins C dx fs)) : ∀ (ds : List PyData) (vs : List V), DpAll K H vs ds → DpAll K (upd H x o) vs ds
  | [], _, h => by cases h; exact .nil
  | d :: ds, _, h => by
    cases h with
    | cons h1 h2 => exact .cons (dp_ins hx d _ h1) (dps_ins hx ds _ h2)
end
theorem PairsIn.ins {H : Hp} {x C dx : Addr} {fs : List (Str × V)} {o : HO} {ws : List V} {ps : PS} (h : PairsIn H ws ps) (hx : H x = some (.ins C dx fs)) : PairsIn (L2.upd H x o) ws ps := ⟨h.1, fun i p hp => by
  obtain ⟨t, h1, h2⟩ := h.2 i p hp
  refine ⟨t, h1, ?_⟩
  rw [upd_ne (ne_of h2 hx (by intro z; cases z))]
  exact h2⟩
theorem RowsIn.ins {H : Hp} {x C dx : Addr} {fs : List (Str × V)} {o : HO} {ws : List V} {rows : List (List Nat)} (h : RowsIn H ws rows) (hx : H x = some (.ins C dx fs)) : RowsIn (L2.upd H x o) ws rows := ⟨h.1, fun i p hp => by
  obtain ⟨t, h1, h2⟩ := h.2.1 i p hp
  refine ⟨t, h1, ?_⟩
  rw [upd_ne (ne_of h2 hx (by intro z; cases z))]
  exact h2, h.2.2⟩
theorem RowsIn.ex {H H' : Hp} {ws : List V} {rows : List (List Nat)} (h : RowsIn H ws rows) (e : Ex H H') : RowsIn H' ws rows := ⟨h.1, fun i p hp => let ⟨t, h1, h2⟩ := h.2.1 i p hp; ⟨t, h1, e _ _ h2⟩, h.2.2⟩
/-- a web that was made at H0 -/
def WebNew (C : Addr) (H0 H : Hp) (x : Addr) (m : Nat) (ps : PS) : Prop := Good m ps ∧ ∃ dx a1 a2 ws1 ws2, H x = some (.ins C dx (webF m a1 a2)) ∧ H a1 = some (.lst ws1) ∧ H a2 = some (.lst ws2) ∧ PairsIn H ws1 ps ∧ RowsIn H ws2 (nearOf m ps) ∧ H0 x = none ∧ H0 a1 = none ∧ H0 a2 = none ∧ ∀ (i : Nat) (t : Addr), ws2[i]? = some (.ref t) → H0 t = none
theorem WebNew.at {K : PySem.W.Frag} {C : Addr} {H0 H : Hp} {x : Addr} {m : Nat} {ps : PS} (h : WebNew C H0 H x m ps) : WebAt K C H x m ps := by
  obtain ⟨g, dx, a1, a2, ws1, ws2, h1, h2, h3, h4, h5, _⟩ := h
  exact ⟨g, dx, a1, a2, h1, h4.dp (sq_of h2), .lst (sq_of h3) h5.dps⟩
/-! ### the slots' list holds -/
def slotsHold (m : Nat) (ps : PS) (ns : List Int) : Bool :=
  decide (ns.length = m) && (!(ns.any fun n => decide (n < 0)) && (List.range m).all fun pl => !((List.range pl).any fun l => decide (ns.getD l 0 = ns.getD pl 0) && clash ps l pl))
theorem nearOf_get {m : Nat} {ps : PS} {i : Nat} (h : i < m) : (nearOf m ps)[i]? = some (rowOf ps i) := by
  unfold nearOf
  rw [List.getElem?_map, List.getElem?_range h]
  rfl
theorem any_getD {b : List Nat} (f : Nat → Bool) : b.any f = (List.range b.length).any fun j => f (b.getD j 0) := by
  induction b with
  | nil => rfl
  | cons x r ih =>
    rw [List.length_cons, List.range_succ_eq_map, List.any_cons, List.any_cons, List.any_map, ih]
    rfl
theorem any_getI {b : List Int} {f : Int → Bool} : b.any f = (List.range b.length).any fun j => f (b.getD j 0) := by
  induction b with
  | nil => rfl
  | cons x r ih =>
    rw [List.length_cons, List.range_succ_eq_map, List.any_cons, List.any_cons, List.any_map, ih]
    rfl
theorem given_filter (b : List Nat) (f : Nat → Bool) : given b.length (fun n => f (b.getD n 0)) (fun n => V.int ((b.getD n 0 : Nat) : Int)) = vN (b.filter f) := by
  unfold given vN
  have e : b = (List.range b.length).map fun n => b.getD n 0 := by
    refine List.ext_getElem? fun i => ?_
    by_cases q : i < b.length
    · rw [List.getElem?_map, List.getElem?_range q]
      show b[i]? = some (b.getD i 0)
      rw [List.getD_eq_getElem?_getD, List.getElem?_eq_getElem q]
      rfl
    · rw [List.getElem?_eq_none (by omega), List.getElem?_eq_none (by simpa using q)]
  conv => rhs; rw [e]
  rw [List.filter_map, List.map_map]
  rfl
theorem ne_nil (ns : List Nat) : (!PyData.eqv (dN ns) (.list [])) = !ns.isEmpty := by
  cases ns with
  | nil => rfl
  | cons x r => rfl
theorem filter_any (b : List Nat) (f : Nat → Bool) : (!(b.filter f).isEmpty) = b.any f := by
  induction b with
  | nil => rfl
  | cons x r ih =>
    rw [List.filter_cons, List.any_cons]
    by_cases h : f x = true
    · rw [if_pos h, h]
      rfl
    · rw [if_neg h, ih, Bool.eq_false_iff.mpr h, Bool.false_or]
theorem vN_at {b : List Nat} {j : Nat} {x : V} (h : (vN b)[j]? = some x) : ∃ n : Nat, x = .int (n : Int) ∧ b[j]? = some n := by
  unfold vN at h
  rw [List.getElem?_map] at h
  obtain ⟨n, h1, h2⟩ := Option.map_eq_some_iff.mp h
  exact ⟨n, h2.symm, h1⟩
end Wm
end
section
set_option Elab.async false
set_option linter.all false
set_option maxRecDepth 100000
set_option maxHeartbeats 4000000
namespace Wm
open PySem PySem.Spec PyProof.Rows L2 Lf
open Evl
theorem rowOf_sorted {many : Nat} {ps : PS} (g : Good many ps) (i : Nat) : (rowOf ps i).Pairwise (· < ·) := by
  unfold rowOf
  have h : ps.Pairwise fun p q => lt2 p q ∧ p.1 < p.2 ∧ q.1 < q.2 := by
    refine List.Pairwise.imp_of_mem (fun {p q} hp hq h => ⟨h, (g.lt p hp).1, (g.lt q hq).1⟩) g.pw
  refine List.Pairwise.filterMap _ (fun p q ⟨h1, h2, h3⟩ x hx y hy => ?_) h
  have hx : (if p.1 = i then some p.2 else if p.2 = i then some p.1 else none) = some x := hx
  have hy : (if q.1 = i then some q.2 else if q.2 = i then some q.1 else none) = some y := hy
  have h1 : p.1 < q.1 ∨ (p.1 = q.1 ∧ p.2 < q.2) := h1
  split at hx
  · split at hy
    · cases hx; cases hy; omega
    · split at hy
      · cases hx; cases hy; omega
      · cases hy
  · split at hx
    · split at hy
      · cases hx; cases hy; omega
      · split at hy
        · cases hx; cases hy; omega
        · cases hy
    · cases hx
theorem rowOf_lt {many : Nat} {ps : PS} (g : Good many ps) {i n : Nat} (h : n ∈ rowOf ps i) : n < many := by
  unfold rowOf at h
  obtain ⟨p, hp, e⟩ := List.mem_filterMap.mp h
  obtain ⟨h1, h2⟩ := g.lt p hp
  split at e
  · cases e; omega
  · split at e
    · cases e; omega
    · cases e
theorem sorted_row {many : Nat} {ps : PS} (g : Good many ps) {i : Nat} {ns : List Int} (hp : ns.Perm ((rowOf ps i).map fun n : Nat => (n : Int))) (hs : ns.Pairwise (· ≤ ·)) : ns = (rowOf ps i).map fun n : Nat => (n : Int) := by
  refine PySem.W.ksm_same hp hs ?_
  rw [List.pairwise_map]
  exact List.Pairwise.imp (fun h => by omega) (rowOf_sorted g i)
theorem adj_of {many : Nat} {ps : PS} (g : Good many ps) {a b : Nat} (h : (a, b) ∈ ps) : adj ps a b = true ∧ adj ps b a = true := by
  have h1 := (g.lt _ h).1
  refine ⟨decide_eq_true ?_, decide_eq_true ?_⟩
  · exact List.mem_filterMap.mpr ⟨(a, b), h, by simp⟩
  · have h1 : a < b := h1
    exact List.mem_filterMap.mpr ⟨(a, b), h, by have : ¬ a = b := by omega
                                                simp [this]⟩
theorem clash_of {many : Nat} {ps : PS} (g : Good many ps) {a b : Nat} (h : (a, b) ∈ ps) : clash ps a b = true := by
  have h1 : a < b := (g.lt _ h).1
  unfold clash
  rw [(adj_of g h).1]
  have : ¬ a = b := by omega
  simp [this]
/-! ### the slots, each the least that no lesser clashing place has -/
def lesser (ps : PS) (n : Nat) : List Nat := ((List.range n).filter fun l => clash ps l n).map fun l => (slotsUpto ps n).getD l 0
theorem slots_stay (ps : PS) {i : Nat} : ∀ {n m : Nat}, i < n → n ≤ m → (slotsUpto ps m)[i]? = (slotsUpto ps n)[i]?
  | n, 0, h, h2 => by omega
  | n, m + 1, h, h2 => by
    by_cases e : n = m + 1
    · rw [e]
    · show (slotsUpto ps m ++ _)[i]? = _
      rw [List.getElem?_append_left (by rw [slots_len]; omega)]
      exact slots_stay ps h (by omega)
theorem slots_at (ps : PS) {i m : Nat} (h : i < m) : (slotsUpto ps m)[i]? = some (least (lesser ps i)) := by
  rw [slots_stay ps (Nat.lt_succ_self i) h]
  show (slotsUpto ps i ++ [_])[i]? = _
  rw [List.getElem?_append_right (by rw [slots_len]; exact Nat.le_refl _), slots_len, Nat.sub_self]
  rfl
theorem slots_get (ps : PS) {i m : Nat} (h : i < m) : (slotsUpto ps m).getD i 0 = least (lesser ps i) := by
  rw [List.getD_eq_getElem?_getD, slots_at ps h]
  rfl
theorem lesser_eq (ps : PS) {i m : Nat} (h : i ≤ m) : lesser ps i = ((List.range i).filter fun l => clash ps l i).map fun l => (slotsUpto ps m).getD l 0 := by
  unfold lesser
  refine List.map_congr_left fun l hl => ?_
  have hl : l < i := List.mem_range.mp (List.mem_filter.mp hl).1
  rw [slots_get ps hl, slots_get ps (Nat.lt_of_lt_of_le hl h)]
/-- clashing places have unlike slots -/
theorem slots_apart (ps : PS) {a b m : Nat} (h : a < b) (hb : b < m) (hc : clash ps a b = true) : (slotsUpto ps m).getD a 0 ≠ (slotsUpto ps m).getD b 0 := by
  intro e
  rw [slots_get ps hb] at e
  refine least_not (lesser ps b) ?_
  rw [← e, lesser_eq ps (Nat.le_of_lt hb)]
  exact List.mem_map.mpr ⟨a, List.mem_filter.mpr ⟨List.mem_range.mpr h, hc⟩, rfl⟩
theorem slots_hold_ok {m : Nat} (ps : PS) : slotsHold m ps ((slotsUpto ps m).map fun n : Nat => (n : Int)) = true := by
  unfold slotsHold
  have gd : ∀ i, i < m → ((slotsUpto ps m).map fun n : Nat => (n : Int)).getD i 0 = (((slotsUpto ps m).getD i 0 : Nat) : Int) := by
    intro i hi
    rw [List.getD_eq_getElem?_getD, List.getD_eq_getElem?_getD, List.getElem?_map, slots_at ps hi]
    rfl
  have h1 : decide (((slotsUpto ps m).map fun n : Nat => (n : Int)).length = m) = true := decide_eq_true (by rw [List.length_map, slots_len])
  have h2 : (((slotsUpto ps m).map fun n : Nat => (n : Int)).any fun n => decide (n < 0)) = false := by
    rw [List.any_eq_false]
    intro x hx
    obtain ⟨n, _, rfl⟩ := List.mem_map.mp hx
    rw [decide_eq_false (by omega)]
    decide
  rw [h1, h2]
  show ((List.range m).all fun pl => _) = true
  rw [List.all_eq_true]
  intro pl hpl
  have hpl := List.mem_range.mp hpl
  rw [Bool.not_eq_true', List.any_eq_false]
  intro l hl
  have hl := List.mem_range.mp hl
  rw [gd l (by omega), gd pl hpl]
  intro hh
  rw [Bool.and_eq_true, decide_eq_true_eq] at hh
  exact slots_apart ps hl hpl hh.2 (by have := hh.1; omega)
theorem slots_hold_no {m : Nat} {ps : PS} {ns : List Int} {a b : Nat} (hab : a < b) (hb : b < m) (hc : clash ps a b = true) (e : ns.getD a 0 = ns.getD b 0) : slotsHold m ps ns = false := by
  unfold slotsHold
  have : ((List.range m).all fun pl => !((List.range pl).any fun l => decide (ns.getD l 0 = ns.getD pl 0) && clash ps l pl)) = false := by
    rw [List.all_eq_false]
    refine ⟨b, List.mem_range.mpr hb, ?_⟩
    rw [Bool.not_eq_true', Bool.not_eq_false]
    rw [List.any_eq_true]
    exact ⟨a, List.mem_range.mpr hab, by rw [hc, decide_eq_true e]; rfl⟩
  rw [this, Bool.and_false, Bool.and_false]
theorem given_vN (ps : PS) (i m : Nat) : given i (fun j => clash ps j i) (fun j => V.int (((slotsUpto ps m).getD j 0 : Nat) : Int)) = vN (((List.range i).filter fun l => clash ps l i).map fun l => (slotsUpto ps m).getD l 0) := by
  unfold given vN
  rw [List.map_map]
  rfl
theorem lesser_len (ps : PS) (n : Nat) : (lesser ps n).length ≤ n := by
  unfold lesser
  rw [List.length_map]
  have h := List.length_filter_le (fun l => clash ps l n) (List.range n)
  rw [List.length_range] at h
  exact h
end Wm
end
section
set_option Elab.async false
set_option linter.all false
set_option maxRecDepth 100000
set_option maxHeartbeats 4000000
namespace Wm
open PySem PySem.Spec PyProof.Rows L2 Lf
open Evl
theorem bag_lst {H : Hp} {b : Addr × Addr} (h : Bag H b) : ∃ xs, H b.1 = some (.lst xs) := let ⟨_, _, _, _, h1, _⟩ := h; ⟨_, h1⟩
theorem tup_ne {H : Hp} {b : Addr × Addr} {t : Addr} {xs : List V} (h : Bag H b) (ht : H t = some (.tup xs)) : t ≠ b.1 := let ⟨_, h1⟩ := bag_lst h; ne_of ht h1 (by intro z; cases z)
theorem PairsIn.step {H H' : Hp} {b : Addr × Addr} {ws : List V} {ps : PS} (h : PairsIn H ws ps) (hb : Bag H b) (s : Step b H H') : PairsIn H' ws ps := ⟨h.1, fun i p hp => let ⟨t, h1, h2⟩ := h.2 i p hp; ⟨t, h1, s.at (tup_ne hb h2) h2⟩⟩
theorem PairsIn.mask {H : Hp} {b : Addr × Addr} {ws : List V} {ps : PS} (h : PairsIn H ws ps) (hb : Bag H b) : PairsIn (mask b.1 H) ws ps := ⟨h.1, fun i p hp => let ⟨t, h1, h2⟩ := h.2 i p hp; ⟨t, h1, by rw [mask_at (tup_ne hb h2)]; exact h2⟩⟩
theorem seldom_at {way : Int} (h0 : 0 ≤ way) (h1 : way < 6) : ∃ sd : Int, atI [V.int 9, V.int 9, V.int 3, V.int 5, V.int 9, V.int 2] way = some (.int sd) ∧ 2 ≤ sd ∧ sd ≤ 9 := by
  obtain ⟨n, rfl⟩ := Int.eq_ofNat_of_zero_le h0
  have hn : n < 6 := by omega
  match n, hn with
  | 0, _ => exact ⟨9, rfl, by decide, by decide⟩
  | 1, _ => exact ⟨9, rfl, by decide, by decide⟩
  | 2, _ => exact ⟨3, rfl, by decide, by decide⟩
  | 3, _ => exact ⟨5, rfl, by decide, by decide⟩
  | 4, _ => exact ⟨9, rfl, by decide, by decide⟩
  | 5, _ => exact ⟨2, rfl, by decide, by decide⟩
theorem tany_take {b : Addr × Addr} {σ : L2.St} {H : Hp} {many : Int} {i j : Nat} (hb : Bag H b) (hi : σ[i]? = some (some (.ref b.1))) (hj : σ[j]? = some (some (.int many))) (hm : 0 < many ∧ many < 1073741824) :
    TAny (Step b) (tTest (tOp rEq (tCl spTake E0 (tCons (tVar i) (tCons (tVar j) tNil))) (tC (.int 0)))) σ H := fun Q q =>
  ⟨_, hi, _, hj, b, many, rfl, hb, hm, fun v H' _ _ bg s => ⟨rfl, _, rfl, q _ _ (.draw bg s)⟩⟩
theorem RowsIn.mask {H0 H : Hp} {b : Addr} {ws : List V} {rows : List (List Nat)} (h : RowsIn H ws rows) (hb : H0 b ≠ none) (hf : ∀ (i : Nat) (t : Addr), ws[i]? = some (.ref t) → H0 t = none) : RowsIn (mask b H) ws rows := ⟨h.1, fun i row hr => by
  obtain ⟨t, h1, h2⟩ := h.2.1 i row hr
  refine ⟨t, h1, ?_⟩
  have : t ≠ b := fun e => hb (e ▸ hf i t h1)
  rw [mask_at this]
  exact h2, h.2.2⟩
theorem WebNew.mask {K : PySem.W.Frag} {C : Addr} {H0 H : Hp} {x : Addr} {m : Nat} {ps : PS} {b : Addr × Addr} (h : WebNew C H0 H x m ps) (hb0 : Bag H0 b) (hb : Bag H b) : WebAt K C (mask b.1 H) x m ps := by
  obtain ⟨g, dx, a1, a2, ws1, ws2, h1, h2, h3, h4, h5, f0, f1, f2, fr⟩ := h
  have nb : H0 b.1 ≠ none := by
    obtain ⟨xs, q⟩ := bag_lst hb0
    rw [q]
    exact fun z => nomatch z
  have ne : ∀ {a : Addr}, H0 a = none → a ≠ b.1 := fun h e => nb (e ▸ h)
  exact ⟨g, dx, a1, a2, by rw [mask_at (ne f0)]; exact h1, (h4.mask hb).dp (sq_of (by rw [mask_at (ne f1)]; exact h2)), .lst (sq_of (by rw [mask_at (ne f2)]; exact h3)) (h5.mask nb fr).dps⟩
theorem RowsIn.snoc {H : Hp} {ws : List V} {rows : List (List Nat)} {t : Addr} {row : List Nat} (h : RowsIn H ws rows) (ht : H t = some (.lst (vN row))) (hf : ∀ j : Nat, ws[j]? ≠ some (.ref t)) : RowsIn H (ws ++ [.ref t]) (rows ++ [row]) := by
  have hl := h.1
  refine ⟨by rw [List.length_append, List.length_append, hl] <;> rfl, fun i r hr => ?_, fun i j u h1 h2 => ?_⟩
  · by_cases hi : i < rows.length
    · rw [List.getElem?_append_left hi] at hr
      obtain ⟨u, h1, h2⟩ := h.2.1 i r hr
      exact ⟨u, by rw [List.getElem?_append_left (by omega)]; exact h1, h2⟩
    · rw [List.getElem?_append_right (by omega)] at hr
      have e0 : i - rows.length = 0 := by
        have := (List.getElem?_eq_some_iff.mp hr).1
        simp at this
        omega
      rw [e0] at hr
      cases hr
      refine ⟨t, ?_, ht⟩
      rw [List.getElem?_append_right (by omega), hl, e0]
      rfl
  · have old : ∀ (k : Nat), (ws ++ [V.ref t])[k]? = some (.ref u) → (ws[k]? = some (.ref u)) ∨ (k = ws.length ∧ u = t) := by
      intro k hk
      by_cases q : k < ws.length
      · rw [List.getElem?_append_left q] at hk
        exact .inl hk
      · rw [List.getElem?_append_right (by omega)] at hk
        have q2 := (List.getElem?_eq_some_iff.mp hk).1
        have e0 : k = ws.length := by simp at q2; omega
        subst e0
        rw [Nat.sub_self] at hk
        cases hk
        exact .inr ⟨rfl, rfl⟩
    rcases old i h1 with a | ⟨a, a2⟩ <;> rcases old j h2 with c | ⟨c, c2⟩
    · exact h.2.2 i j u a c
    · rw [c2] at a
      exact absurd a (hf i)
    · rw [a2] at c
      exact absurd c (hf j)
    · omega
theorem RowsIn.updD {H : Hp} {ws : List V} {rows : List (List Nat)} {D : Addr} {o : HO} (h : RowsIn H ws rows) (hf : ∀ j : Nat, ws[j]? ≠ some (.ref D)) : RowsIn (L2.upd H D o) ws rows := ⟨h.1, fun i r hr => by
  obtain ⟨u, h1, h2⟩ := h.2.1 i r hr
  have nu : u ≠ D := fun e => hf i (e ▸ h1)
  exact ⟨u, h1, by rw [upd_ne nu]; exact h2⟩, h.2.2⟩
theorem RowsIn.notnew {H : Hp} {ws : List V} {rows : List (List Nat)} {t : Addr} (h : RowsIn H ws rows) (ht : H t = none) : ∀ j : Nat, ws[j]? ≠ some (.ref t) := fun j hj => by
  have hl := (List.getElem?_eq_some_iff.mp hj).1
  have hl2 : j < rows.length := by rw [← h.1]; exact hl
  obtain ⟨u, h1, h2⟩ := h.2.1 j _ (List.getElem?_eq_getElem hl2)
  rw [hj] at h1
  cases h1
  rw [ht] at h2
  cases h2
end Wm
end
section
set_option Elab.async false
set_option linter.all false
set_option maxRecDepth 100000
set_option maxHeartbeats 4000000
namespace Wm
open PySem PySem.Spec PyProof.Rows L2 Lf
open Evl
/-! data that is short enough to be written out -/
structure Rep (n w : Nat) (d : PyData) : Prop where
  sh : Sh n d
  wt : PyData.weight d ≤ w
  sm : PyData.leavesShort 13 d = true
  ok : PyData.showable d = true
theorem weightAll_le {w : Nat} : ∀ {ds : List PyData}, (∀ d ∈ ds, PyData.weight d ≤ w) → PyData.weightAll ds ≤ ds.length * (w + 1)
  | [], _ => Nat.zero_le _
  | d :: ds, h => by
    have h1 := h d List.mem_cons_self
    have h2 := weightAll_le (ds := ds) fun x hx => h x (List.mem_cons_of_mem _ hx)
    rw [PyData.weightAll, List.length_cons, Nat.succ_mul]
    omega
theorem smAll : ∀ {ds : List PyData}, (∀ d ∈ ds, PyData.leavesShort 13 d = true) → PyData.leavesShortAll 13 ds = true
  | [], _ => rfl
  | d :: ds, h => by
    rw [PyData.leavesShortAll, h d List.mem_cons_self, smAll (ds := ds) fun x hx => h x (List.mem_cons_of_mem _ hx)]
    rfl
theorem okAll : ∀ {ds : List PyData}, (∀ d ∈ ds, PyData.showable d = true) → PyData.showableAll ds = true
  | [], _ => rfl
  | d :: ds, h => by
    rw [PyData.showableAll, h d List.mem_cons_self, okAll (ds := ds) fun x hx => h x (List.mem_cons_of_mem _ hx)]
    rfl
theorem Rep.mono {m n v w : Nat} {d : PyData} (h : Rep m v d) (e : m ≤ n) (e2 : v ≤ w) : Rep n w d := ⟨h.sh.mono e, Nat.le_trans h.wt e2, h.sm, h.ok⟩
theorem log_lt {k j : Nat} (h : k < 2 ^ (j + 1)) : k.log2 < j + 1 := by
  by_cases q : k = 0
  · rw [q]
    exact Nat.succ_pos _
  · exact (Nat.log2_lt q).mpr h
theorem Rep.int {i : Int} (h : i.natAbs < 10 ^ 12) : Rep 0 40 (.int i) := by
  have h1 : i.natAbs.log2 < 39 + 1 := log_lt (Nat.lt_of_lt_of_le h (by decide))
  refine ⟨Sh.int i, ?_, ?_, ?_⟩
  · rw [PyData.weight]
    split <;> omega
  · rw [PyData.leavesShort]
    exact decide_eq_true (PyData.shown_int_le h)
  · rw [PyData.showable]
    exact decide_eq_true (by omega)
theorem Rep.bl (b : Bool) : Rep 0 0 (.bool b) := ⟨Sh.bl b, Nat.le_refl _, rfl, rfl⟩
theorem Rep.non : Rep 0 0 .none := ⟨Sh.non, Nat.le_refl _, rfl, rfl⟩
theorem Rep.list {n w : Nat} {ds : List PyData} (h : ∀ d ∈ ds, Rep n w d) : Rep (n + 1) (ds.length * (w + 1)) (.list ds) := ⟨Sh.list fun d hd => (h d hd).sh, by
  rw [PyData.weight]
  exact weightAll_le fun d hd => (h d hd).wt, by
  rw [PyData.leavesShort]
  exact smAll fun d hd => (h d hd).sm, by
  rw [PyData.showable]
  exact okAll fun d hd => (h d hd).ok⟩
theorem Rep.tup {n w : Nat} {ds : List PyData} (h : ∀ d ∈ ds, Rep n w d) : Rep (n + 1) (ds.length * (w + 1)) (.tuple ds) := ⟨Sh.tup fun d hd => (h d hd).sh, by
  rw [PyData.weight]
  exact weightAll_le fun d hd => (h d hd).wt, by
  rw [PyData.leavesShort]
  exact smAll fun d hd => (h d hd).sm, by
  rw [PyData.showable]
  exact okAll fun d hd => (h d hd).ok⟩
theorem Rep.size {n : Nat} {d : PyData} (h : Rep n 1000000 d) : d.shown.length ≤ sizeLine := PyData.shown_fits (B := 13) (by decide) (by decide) h.sm (Nat.le_trans h.wt (by decide))
theorem Rep.eqv {n w : Nat} {d : PyData} (h : Rep n w d) : PyData.eqv d d = true := SeqAt.eqv_refl d h.sh.can
theorem rep_dN {ns : List Nat} (h : ∀ n ∈ ns, n < 1000) : Rep 1 (ns.length * 41) (dN ns) := by
  have := Rep.list (n := 0) (w := 40) (ds := ns.map fun n : Nat => PyData.int (n : Int)) (fun d hd => by
    obtain ⟨n, hn, rfl⟩ := List.mem_map.mp hd
    have := h n hn
    exact Rep.int (by show n < _; omega))
  rw [List.length_map] at this
  exact this
theorem rep_dP {p : Nat × Nat} (h1 : p.1 < 1000) (h2 : p.2 < 1000) : Rep 1 82 (dP p) := Rep.tup (n := 0) (w := 40) (ds := [.int (p.1 : Int), .int (p.2 : Int)]) (fun d hd => by
  rcases List.mem_cons.mp hd with rfl | hd
  · exact Rep.int (by show p.1 < _; omega)
  · rw [List.mem_singleton.mp hd]
    exact Rep.int (by show p.2 < _; omega))
theorem rep_dPs {m : Nat} {ps : PS} (g : Good m ps) : Rep 2 100000 (dPs ps) := by
  have m10 := g.m10
  have few := g.few
  have := Rep.list (n := 1) (w := 82) (ds := ps.map dP) (fun d hd => by
    obtain ⟨p, hp, rfl⟩ := List.mem_map.mp hd
    have := g.lt p hp
    exact rep_dP (by omega) (by omega))
  rw [List.length_map] at this
  exact this.mono (Nat.le_refl _) (by omega)
theorem rep_row {m : Nat} {ps : PS} (g : Good m ps) (i : Nat) : Rep 1 100000 (dN (rowOf ps i)) := by
  have few : (rowOf ps i).length ≤ 1000 := Nat.le_trans (List.length_filterMap_le ..) g.few
  have m10 := g.m10
  exact (rep_dN fun n hn => by have := rowOf_lt g hn; omega).mono (Nat.le_refl _) (by omega)
theorem rep_slots {m : Nat} (ps : PS) (h : m ≤ 10) : Rep 1 100000 (dN (slotsUpto ps m)) := by
  have e := slots_len ps m
  refine (rep_dN fun n hn => ?_).mono (Nat.le_refl _) (by omega)
  obtain ⟨i, hi, rfl⟩ := List.mem_iff_getElem.mp hn
  have him : i < m := by omega
  have h1 := slots_at ps him
  rw [List.getElem?_eq_getElem hi] at h1
  have h0 := Option.some.inj h1
  have h2 := least_le (lesser ps i)
  have h3 := lesser_len ps i
  omega
/-! alike: equal, and written alike -/
def spAlike (K : PySem.W.Frag) : Sp := fun vs H Q _ => ∃ u v d, vs = [u, v] ∧ Dp K H u d ∧ Dp K H v d ∧ Rep 60 1000000 d ∧ RetV (.bl true) H Q
section
variable {K : PySem.W.Frag} {σ : L2.St} {H : Hp} {te : TE} {xs : List V} {D : Ends}
theorem ev_repr {u : V} {d : PyData} (h : Ev te σ H u) (hd : Dp K H u d) (r : Rep 60 1000000 d) : Ev (tCB (rRepr K) (tCons te tNil)) σ H (.str d.shown) := ev_cb (ea_cons h ea_nil) fun H2 e2 Q q => ⟨u, d, rfl, dp_ex e2 _ _ hd, r.ok, PyData.hasDict_of_canLay d r.sh.can, r.sh.dep, r.size, q H2 (Ex.refl _)⟩
theorem rv_eqD {u v : V} {d : PyData} {n w : Nat} (hu : Dp K H u d) (hv : Dp K H v d) (r : Rep n w d) (hn : n ≤ 64) : RV (rEqD K) u v H (.bl true) := rv_val fun H2 e2 Q k => ⟨d, d, dp_ex e2 _ _ hu, dp_ex e2 _ _ hv, r.sh.shaped hn, r.sh.shaped hn, by rw [r.eqv]; exact k⟩
theorem rv_neD {u v : V} {d : PyData} {n w : Nat} (hu : Dp K H u d) (hv : Dp K H v d) (r : Rep n w d) (hn : n ≤ 64) : RV (rNeD K) u v H (.bl false) := rv_val fun H2 e2 Q k => ⟨d, d, dp_ex e2 _ _ hu, dp_ex e2 _ _ hv, r.sh.shaped hn, r.sh.shaped hn, by rw [r.eqv]; exact k⟩
end
section
variable {σ : L2.St} {H : Hp} {te tu : TE} {xs ys : List V} {v : V} {D : Ends}
theorem s_retLL (h : EvL te σ H xs) (h2 : EvL tu σ H ys) (k : ∀ l l2 p H1, H l = none → H l2 = none → H p = none → Ex H H1 → H1 l = some (.lst xs) → H1 l2 = some (.lst ys) → H1 p = some (.tup [.ref l, .ref l2]) → D.rt (.ref p) H1) : tRet (tTup (tCons te (tCons tu tNil))) D σ H :=
  h H (Ex.refl H) _ fun l H1 l0 e1 hl => h2 H1 e1 _ fun l2 H2 l20 e2 hl2 => ⟨by show 2 ≤ sizeLine; decide, fun p hp => k l l2 p _ l0 (fresh_back e1 l20) (fresh_back (e1.trans e2) hp) ((e1.trans e2).trans (Ex.new hp)) (Ex.new hp _ _ (e2 _ _ hl)) (Ex.new hp _ _ hl2) upd_same⟩
theorem s_retLV (h : EvL te σ H xs) (h2 : Ev tu σ H v) (k : ∀ l p H1, H l = none → H p = none → Ex H H1 → H1 l = some (.lst xs) → H1 p = some (.tup [.ref l, v]) → D.rt (.ref p) H1) : tRet (tTup (tCons te (tCons tu tNil))) D σ H :=
  h H (Ex.refl H) _ fun l H1 l0 e1 hl => h2 H1 e1 _ fun H2 e2 => ⟨by show 2 ≤ sizeLine; decide, fun p hp => k l p _ l0 (fresh_back (e1.trans e2) hp) ((e1.trans e2).trans (Ex.new hp)) (Ex.new hp _ _ (e2 _ _ hl)) upd_same⟩
end
/-! two lists hidden: the bag and one more -/
def M2 (b : Addr × Addr) (q : Addr) (H : Hp) : Hp := mask q (mask b.1 H)
theorem M2.le (b : Addr × Addr) (q : Addr) (H : Hp) : Ex (M2 b q H) (mask b.1 H) := mask_le _ _
theorem M2.step {b : Addr × Addr} {q : Addr} {H H' : Hp} (s : Step b H H') : Ex (M2 b q H) (M2 b q H') := mask_ex s.2
theorem M2.put {b : Addr × Addr} {q : Addr} {H : Hp} {o : HO} : M2 b q (L2.upd H q o) = M2 b q H := by
  funext a
  unfold M2
  by_cases e : a = q
  · rw [e, mask_self, mask_self]
  · rw [mask_at e, mask_at e]
    by_cases e2 : a = b.1
    · rw [e2, mask_self, mask_self]
    · rw [mask_at e2, mask_at e2, upd_ne e]
theorem M2.at {b : Addr × Addr} {q a : Addr} {H : Hp} (h1 : a ≠ b.1) (h2 : a ≠ q) : M2 b q H a = H a := (mask_at h2).trans (mask_at h1)
theorem PairsIn.mask1 {H : Hp} {p : Addr} {us ws : List V} {ps : PS} (h : PairsIn H ws ps) (hp : H p = some (.lst us)) : PairsIn (Lf.mask p H) ws ps := ⟨h.1, fun i x hx => let ⟨t, h1, h2⟩ := h.2 i x hx; ⟨t, h1, by rw [mask_at (ne_of h2 hp (by intro z; cases z))]; exact h2⟩⟩
theorem WebNew.mask1 {C : Addr} {H0 H : Hp} {x : Addr} {m : Nat} {ps : PS} {p : Addr} {us : List V} (h : WebNew C H0 H x m ps) (hp0 : H0 p ≠ none) (hp : H p = some (.lst us)) : WebNew C H0 (Lf.mask p H) x m ps := by
  obtain ⟨g, dx, a1, a2, ws1, ws2, h1, h2, h3, h4, h5, f0, f1, f2, fr⟩ := h
  have ne : ∀ {a : Addr}, H0 a = none → a ≠ p := fun h e => hp0 (e ▸ h)
  exact ⟨g, dx, a1, a2, ws1, ws2, by rw [mask_at (ne f0)]; exact h1, by rw [mask_at (ne f1)]; exact h2, by rw [mask_at (ne f2)]; exact h3, h4.mask1 hp, h5.mask hp0 fr, f0, f1, f2, fr⟩
theorem bag_none {H : Hp} {b : Addr × Addr} (h : Bag H b) : H b.1 ≠ none := by
  obtain ⟨xs, q⟩ := bag_lst h
  rw [q]
  exact fun z => nomatch z
theorem M2.web {K : PySem.W.Frag} {C : Addr} {H0 H : Hp} {x q : Addr} {m : Nat} {ps : PS} {b : Addr × Addr} {us : List V} (h : WebNew C H0 H x m ps) (hb0 : Bag H0 b) (hb : Bag H b) (hq0 : H0 q ≠ none) (hq : H q = some (.lst us)) (nq : q ≠ b.1) : WebAt K C (M2 b q H) x m ps := by
  obtain ⟨xs, q1⟩ := bag_lst hb
  exact ((h.mask1 (bag_none hb0) q1).mask1 hq0 (us := us) (by rw [mask_at nq]; exact hq)).at
theorem M2.pairs {K : PySem.W.Frag} {H : Hp} {q a : Addr} {ws us : List V} {ps : PS} {b : Addr × Addr} (h : PairsIn H ws ps) (hb : Bag H b) (hq : H q = some (.lst us)) (nq : q ≠ b.1) (ha : H a = some (.lst ws)) (n1 : a ≠ b.1) (n2 : a ≠ q) : Dp K (M2 b q H) (.ref a) (dPs ps) := by
  obtain ⟨xs, q1⟩ := bag_lst hb
  exact ((h.mask1 q1).mask1 (us := us) (by rw [mask_at nq]; exact hq)).dp (sq_of ((M2.at n1 n2).trans ha))
theorem M2.rows {K : PySem.W.Frag} {H0 H : Hp} {q a : Addr} {ws : List V} {rows : List (List Nat)} {b : Addr × Addr} (h : RowsIn H ws rows) (hf : ∀ (i : Nat) (t : Addr), ws[i]? = some (.ref t) → H0 t = none) (hb : H0 b.1 ≠ none) (hq : H0 q ≠ none) (ha : H a = some (.lst ws)) (n1 : a ≠ b.1) (n2 : a ≠ q) : Dp K (M2 b q H) (.ref a) (dNs rows) :=
  .lst (sq_of ((M2.at n1 n2).trans ha)) ((h.mask hb hf).mask hq hf).dps
theorem Bag_upd {H : Hp} {b : Addr × Addr} {q : Addr} {o : HO} (h : Bag H b) (n1 : q ≠ b.1) (n2 : q ≠ b.2) : Bag (L2.upd H q o) b := by
  obtain ⟨x, y, z, ns, h1, h2, r⟩ := h
  exact ⟨x, y, z, ns, by rw [upd_ne n1.symm]; exact h1, by rw [upd_ne n2.symm]; exact h2, r⟩
theorem WebNew.ex {C : Addr} {H0 H H' : Hp} {x : Addr} {m : Nat} {ps : PS} (h : WebNew C H0 H x m ps) (e : Ex H H') : WebNew C H0 H' x m ps := by
  obtain ⟨g, dx, a1, a2, ws1, ws2, h1, h2, h3, h4, h5, f0, f1, f2, fr⟩ := h
  exact ⟨g, dx, a1, a2, ws1, ws2, e _ _ h1, e _ _ h2, e _ _ h3, h4.ex e, h5.ex e, f0, f1, f2, fr⟩
theorem WebNew.put {C : Addr} {H0 H : Hp} {x : Addr} {m : Nat} {ps : PS} {p : Addr} {us vs : List V} (h : WebNew C H0 H x m ps) (hp0 : H0 p ≠ none) (hp : H p = some (.lst us)) : WebNew C H0 (L2.upd H p (.lst vs)) x m ps := by
  obtain ⟨g, dx, a1, a2, ws1, ws2, h1, h2, h3, h4, h5, f0, f1, f2, fr⟩ := h
  have ne : ∀ {a : Addr}, H0 a = none → a ≠ p := fun h e => hp0 (e ▸ h)
  exact ⟨g, dx, a1, a2, ws1, ws2, by rw [upd_ne (ne f0)]; exact h1, by rw [upd_ne (ne f1)]; exact h2, by rw [upd_ne (ne f2)]; exact h3, h4.upd hp, h5.updD fun j hj => ne (fr j p hj) rfl, f0, f1, f2, fr⟩
theorem first_free {m : Nat} {b : List Nat} (h : least b < m) : ((List.range m).filter fun n => !decide (n ∈ b))[0]? = some (least b) := by
  rw [← List.head?_eq_getElem?, List.head?_filter, List.find?_range_eq_some]
  refine ⟨by rw [decide_eq_false (least_not b)]; rfl, List.mem_range.mpr h, fun j hj => ?_⟩
  rw [decide_eq_true (least_in b j hj)]
  rfl
end Wm
end
section
set_option Elab.async false
set_option linter.all false
set_option maxRecDepth 100000
set_option maxHeartbeats 4000000
/-! Ln: plain kinds: what number_of and its like make of a value. -/
namespace Lf
open PySem PySem.Spec PyProof.Rows L2
open Evl
def optV : Option Int → V
  | none => .non
  | some i => .int i
/-- what number_of makes of a value -/
def Whole (K : PySem.W.Frag) (H : Hp) (v : V) (o : Option Int) : Prop := ∃ t b1 b2, TyX K H v t ∧ PySem.W.kitOne K t (.type "int") = some b1 ∧ PySem.W.kitOne K t (.type "bool") = some b2 ∧
  ((b1 = true ∧ b2 = false ∧ ∃ i, v = .int i ∧ o = some i) ∨ (b1 = false ∧ o = none) ∨ (b1 = true ∧ b2 = true ∧ o = none))
theorem Whole.int (K : PySem.W.Frag) (H : Hp) (i : Int) : Whole K H (.int i) (some i) := ⟨_, true, false, .base (.int i), kit_ty (by decide +kernel), kit_ty (by decide +kernel), .inl ⟨rfl, rfl, i, rfl, rfl⟩⟩
theorem Whole.non (K : PySem.W.Frag) (H : Hp) : Whole K H .non none := ⟨_, false, false, .base .non, kit_ty (by decide +kernel), kit_ty (by decide +kernel), .inr (.inl ⟨rfl, rfl⟩)⟩
theorem Whole.bl (K : PySem.W.Frag) (H : Hp) (b : Bool) : Whole K H (.bl b) none := ⟨_, true, true, .base (.bl b), kit_ty (by decide +kernel), kit_ty (by decide +kernel), .inr (.inr ⟨rfl, rfl, rfl⟩)⟩
theorem Whole.str (K : PySem.W.Frag) (H : Hp) (x : Str) : Whole K H (.str x) none := ⟨_, false, false, .base (.str x), kit_ty (by decide +kernel), kit_ty (by decide +kernel), .inr (.inl ⟨rfl, rfl⟩)⟩
theorem Whole.lst {K : PySem.W.Frag} {H : Hp} {a : Addr} {xs : List V} (h : SqL K H a xs) : Whole K H (.ref a) none := ⟨_, false, false, ty_of_l h, kit_ty (by decide +kernel), kit_ty (by decide +kernel), .inr (.inl ⟨rfl, rfl⟩)⟩
theorem Whole.tup {K : PySem.W.Frag} {H : Hp} {a : Addr} {xs : List V} (h : SqT K H a xs) : Whole K H (.ref a) none := ⟨_, false, false, ty_of_t h, kit_ty (by decide +kernel), kit_ty (by decide +kernel), .inr (.inl ⟨rfl, rfl⟩)⟩
def spNumber (K : PySem.W.Frag) : Sp := fun vs H Q _ => ∃ v o, vs = [v] ∧ Whole K H v o ∧ RetV (optV o) H Q
def inB (o : Option Int) (lo hi : Int) : Bool := match o with
  | none => false
  | some i => decide (lo ≤ i) && decide (i ≤ hi)
def spWithin (K : PySem.W.Frag) : Sp := fun vs H Q _ => ∃ v o lo hi, vs = [v, .int lo, .int hi] ∧ Whole K H v o ∧ RetV (.bl (inB o lo hi)) H Q
/-- isinstance of one built-in class -/
def Isi (K : PySem.W.Frag) (H : Hp) (v : V) (c : String) (b : Bool) : Prop := ∃ t, TyX K H v t ∧ PySem.W.kitOne K t (.type c) = some b
def RetU (xs : List V) (H : Hp) (Q : VK) : Prop := ∀ p H2, H p = none → Ex H H2 → H2 p = some (.tup xs) → Q (.ref p) H2
def SU (sp : Sp) (vs : List V) (H : Hp) (xs : List V) : Prop := ∀ H1, Ex H H1 → ∀ Q : VK, RetU xs H1 Q → ∀ E : XK, sp vs H1 Q E
section
variable {K : PySem.W.Frag} {σ : L2.St} {H H' : Hp} {ta tb te tx : TE} {t u : TT} {x y z v : V} {r : R2} {D : Ends} {tz : TS}
theorem sv_number (K : PySem.W.Frag) (H : Hp) (i : Int) : SV (spNumber K) [.int i] H (.int i) := fun H1 e Q q E => ⟨_, some i, rfl, .int K H1 i, q⟩
theorem sv_within (K : PySem.W.Frag) (H : Hp) (i lo hi : Int) : SV (spWithin K) [.int i, .int lo, .int hi] H (.bl (inB (some i) lo hi)) := fun H1 e Q q E => ⟨_, some i, lo, hi, rfl, .int K H1 i, q⟩
theorem eu_cl {sp : Sp} {vs xs : List V} {E : XK} {ta : TA} (h : EvA ta σ H vs) (hs : SU sp vs H xs) : EvU (tCl sp E ta) σ H xs := fun H1 e Q q =>
  h H1 e _ fun H2 e2 => hs H2 (e.trans e2) Q (fun p H3 hp e3 h3 => q p H3 (fresh_back e2 hp) (e2.trans e3) h3) E
theorem q_par {i j : Nat} {ta : TA} (h : EvA ta σ H [x, y]) (k : ∀ H1, Ex H H1 → tz D ((σ.set i (some x)).set j (some y)) H1) : tSeq (tPar i j ta) tz D σ H := h H (Ex.refl H) _ fun H1 e => ⟨x, y, rfl, k H1 e⟩
theorem s_par {i j : Nat} {ta : TA} (h : EvA ta σ H [x, y]) (k : ∀ H1, Ex H H1 → D.nx ((σ.set i (some x)).set j (some y)) H1) : tPar i j ta D σ H := h H (Ex.refl H) _ fun H1 e => ⟨x, y, rfl, k H1 e⟩
theorem q_asgG1 {g : TG} (h : Ev te σ H v) (k : ∀ H1, Ex H H1 → g v σ H1 (tz D)) : tSeq (tAsg te g) tz D σ H := h H (Ex.refl H) _ k
open Wm in
theorem rv_eqD2 {u v : V} {d d' : PyData} {n m : Nat} (hu : Dp K H u d) (hv : Dp K H v d') (s : Sh n d) (s' : Sh m d') (hn : n ≤ 64) (hm : m ≤ 64) : RV (rEqD K) u v H (.bl (PyData.eqv d d')) := rv_val fun H2 e2 Q k => ⟨d, d', dp_ex e2 _ _ hu, dp_ex e2 _ _ hv, s.shaped hn, s'.shaped hm, k⟩
open Wm in
theorem rv_neD2 {u v : V} {d d' : PyData} {n m : Nat} (hu : Dp K H u d) (hv : Dp K H v d') (s : Sh n d) (s' : Sh m d') (hn : n ≤ 64) (hm : m ≤ 64) : RV (rNeD K) u v H (.bl (!PyData.eqv d d')) := rv_val fun H2 e2 Q k => ⟨d, d', dp_ex e2 _ _ hu, dp_ex e2 _ _ hv, s.shaped hn, s'.shaped hm, k⟩
/-- the first operand a new tuple -/
theorem ev_opU1 {xs : List V} (ha : EvU ta σ H xs) (hb : ∀ H1, Ex H H1 → Ev tb σ H1 y) (hr : ∀ p H1, H1 p = some (.tup xs) → Ex H H1 → RV r (.ref p) y H1 z) : Ev (tOp r ta tb) σ H z := fun H1 e Q q =>
  ha H1 e _ fun p H2 _ e2 hp => hb H2 (e.trans e2) H2 (Ex.refl H2) _ fun H3 e3 => hr p H3 (e3 p _ hp) ((e.trans e2).trans e3) H3 (Ex.refl H3) Q fun H4 e4 => q H4 ((e2.trans e3).trans e4)
end
open Wm in
theorem sh_ints (ns : List Int) : Sh 1 (.tuple (ns.map PyData.int)) := Sh.tup (n := 0) fun d hd => by
  obtain ⟨i, _, rfl⟩ := List.mem_map.mp hd
  exact Sh.int i
open Wm in
theorem eqv_sh {n : Nat} {d : PyData} (h : Sh n d) : PyData.eqv d d = true := SeqAt.eqv_refl d h.can
theorem getD_int {ns : List Int} {i : Nat} (h : i < ns.length) : (ns.map V.int)[i]? = some (.int (ns.getD i 0)) := by
  rw [List.getElem?_map, List.getD_eq_getElem?_getD, List.getElem?_eq_getElem h]
  rfl
/-- ints in a tuple, as data -/
theorem dp_ints {K : PySem.W.Frag} {H : Hp} {p : Addr} {ns : List Int} (h : H p = some (.tup (ns.map V.int))) : Dp K H (.ref p) (.tuple (ns.map PyData.int)) := .tup (st_of h) Dps.ints
end Lf
end
section
set_option Elab.async false
set_option linter.all false
set_option maxRecDepth 100000
set_option maxHeartbeats 4000000
/-! Lx: sorted, min, max of data of any depth, by values. -/
namespace Lf
open PySem PySem.Spec PyProof.Rows L2
open Evl
section
variable {X : Cx}
/-- sorted(xs), the items data: bs the items with their data -/
def rSortD (K : PySem.W.Frag) : List V → Hp → VK → Prop := fun vs H Q => ∃ (a : Addr) (bs : List (V × PyData)), vs = [V.ref a] ∧ SqL K H a (bs.map (·.1)) ∧ (∀ b ∈ bs, Dp K H b.1 b.2) ∧ PySem.W.AllAlike (bs.map (·.2)) ∧ PySem.W.Sortable (bs.map (·.2)) ∧ (∀ b ∈ bs, b.2.depth ≤ 60) ∧
  ∀ p, H p = none → Q (.ref p) (upd H p (.lst ((bs.mergeSort (PySem.W.dataLe false (·.2))).map (·.1))))
theorem each_vals {bs : List (V × PyData)} : ∀ {us : List Value}, Vals (bs.map (·.1)) us → PySem.W.EachIs (fun u (b : V × PyData) => RelV b.1 u) us bs := by
  induction bs with
  | nil => intro us r; cases r; exact .nil
  | cons b bs ih => intro us r; cases r with | cons h t => exact .cons h (ih t)
theorem vals_each {bs : List (V × PyData)} : ∀ {us : List Value}, PySem.W.EachIs (fun u (b : V × PyData) => RelV b.1 u) us bs → Vals (bs.map (·.1)) us := by
  induction bs with
  | nil => intro us r; cases r; exact .nil
  | cons b bs ih => intro us r; cases r with | cons h t => exact .cons h (ih t)
theorem each_both {α β : Type} {R S : α → β → Prop} {as : List α} {bs : List β} (h : PySem.W.EachIs R as bs) (k : ∀ a b, b ∈ bs → R a b → S a b) : PySem.W.EachIs S as bs := by
  induction h with
  | nil => exact .nil
  | cons h1 h2 ih => exact .cons (k _ _ List.mem_cons_self h1) (ih fun a b hb hr => k a b (List.mem_cons_of_mem _ hb) hr)
theorem cr_sortD (hu : X.A.units + 65 < cLine) : CallR X (.builtin "sorted") (rSortD X.K) := by
  intro pins s σ H vs us Q I r h
  obtain ⟨a, bs, rfl, hs, hd, hal, hk, hdep, q⟩ := h
  obtain ⟨its, rv, hl, hz⟩ := I.list hs
  rw [Vals.ref1 r]
  have e := each_vals rv
  refine PySem.W.sorted_data (enc := fun b : V × PyData => b.2) hl.isList e (each_both e fun u b hb hr => Dp.reads I _ _ _ (hd b hb) hr) hal hk (by rw [List.length_map] at hz; exact hz) (fun b hb => by have := hdep b hb; omega) fun out ho eo => ?_
  obtain ⟨ep, he'⟩ := PyProof.Rows.sortedAll_at s.heap its out.toArray
  have hlen : ((bs.mergeSort (PySem.W.dataLe false (·.2))).map (·.1)).length ≤ sizeLine := by
    rw [List.length_map, List.length_mergeSort]
    rw [List.length_map] at hz
    exact hz
  exact ⟨.ref _, upd H (s.heap.objs.size + 1) (.lst ((bs.mergeSort (PySem.W.dataLe false (·.2))).map (·.1))), I.laid (t' := s.toks) (fun _ _ => PyProof.Rows.sortedAll_old) (Nat.le_succ _) ⟨hlen, out, ep, vals_each eo, he'⟩, rfl, q _ (I.hok.fresh (Nat.le_succ _))⟩
/-- min(xs), max(xs), the items data -/
def rMinD (K : PySem.W.Frag) : List V → Hp → VK → Prop := fun vs H Q => ∃ (a : Addr) (xs : List V) (d : PyData) (ds : List PyData), vs = [V.ref a] ∧ SqL K H a xs ∧ DpAll K H xs (d :: ds) ∧ PySem.W.AlikeAll (d :: ds) ∧ PyData.depthAll (d :: ds) ≤ 60 ∧
  ∀ (i : Nat) (v : V), xs[i]? = some v → (d :: ds)[i]? = some (PySem.W.minD d ds) → Dp K H v (PySem.W.minD d ds) → Q v H
theorem readsAll_get {h : Heap} : ∀ {vs : List Value} {xs : List PyData} {as : List Addr}, ReadsAll h vs xs as → ∀ (i : Nat) (v : Value), vs[i]? = some v → ∃ d bs, xs[i]? = some d ∧ Reads h v d bs
  | _, _, _, .nil, _, _, hv => by simp at hv
  | _, _, _, .cons (d := d) r rs, 0, v, hv => by
    have e := Option.some.inj (show some _ = some v from hv)
    subst e
    exact ⟨d, _, rfl, r⟩
  | _, _, _, .cons r rs, i + 1, v, hv => readsAll_get rs i v (by simpa using hv)
theorem vals_get : ∀ {xs : List V} {us : List Value} {i : Nat} {u : Value}, Vals xs us → us[i]? = some u → ∃ v, xs[i]? = some v ∧ RelV v u
  | _, _, _, _, .nil, h => by simp at h
  | _, _, 0, _, .cons r _, h => by
    have e := Option.some.inj (show some _ = some _ from h)
    subst e
    exact ⟨_, rfl, r⟩
  | _, _, i + 1, _, .cons _ t, h => vals_get (i := i) t (by simpa using h)
theorem cr_minD (hc : X.calm = true) (hu : X.A.units + 65 < cLine) : CallR X (.builtin "min") (rMinD X.K) := by
  intro pins s σ H vs us Q I r h
  obtain ⟨a, xs, d, ds, rfl, hs, hd, hal, hdep, q⟩ := h
  obtain ⟨its, rv, hl, hz⟩ := I.list hs
  rw [Vals.ref1 r]
  obtain ⟨as, ra⟩ := Dp.readsAll I _ _ _ hd rv
  refine PySem.W.min_list_data (vs := its.toArray) (I.ok.hd hc) hl.isList (by simpa using ra) hal (by omega) fun i v h' tk bs hv hr hk => ?_
  have hv' : its[i]? = some v := by simpa using hv
  obtain ⟨x, hx, rx⟩ := vals_get rv hv'
  obtain ⟨e, he, hde⟩ := Dps.get hd hx
  obtain ⟨e2, bs2, he2, r2⟩ := readsAll_get ra i v hv'
  rw [he] at he2
  cases he2
  have eq := (Reads.unique (PyProof.Rows.Reads.keeps hk r2) _ _ hr).1
  subst eq
  exact ⟨x, H, I.kept hk, rx, q i x hx he hde⟩
/-- o.f = v as a target -/
def gFld (K : PySem.W.Frag) (to : TE) (f : Str) : TG := fun v σ H Q => to σ H fun x H1 => ∃ a C dx fs, x = .ref a ∧ H1 a = some (.ins C dx fs) ∧ Cls K C ∧ NoAttr K C f ∧ fs.length < 1000 ∧ Q σ (upd H1 a (.ins C dx (putF f v fs)))
theorem pg_fld {o : Expr} {f : Str} {to : TE} {pos : Pos} (ho : PE X o to) (ha : ∀ v, assign (.Attribute o f pos) X.env v = (do
      let ov ← holding [v] (eval o X.env)
      standAt pos.atName
      holding [v, ov] (setAttr ov f v)
      release [v, ov] []) := by intro _; rfl) : PG X (.Attribute o f pos) (gFld X.K to f) := by
  refine ⟨fun pins s σ H v u Q I r h => ?_⟩
  rw [ha]
  refine wpAny_bind (wpAny_holding (thn (ho.run pins s σ H _ I h) fun ov s1 ⟨x, H1, I1, r1, a, C, dx, fs, ex, ea, c, n, l, q⟩ => ?_))
  subst ex
  obtain rfl : ov = Value.ref a := r1
  refine wpAny_bind (wpAny_standAt (wpAny_bind (wpAny_holding (setattr_ok I1 ea c n l r fun s3 I3 => ?_))))
  exact wpAny_release ⟨σ, _, I3, q⟩
theorem k_gfld {K : PySem.W.Frag} {o : Expr} {f : Str} {to : TE} {pos : Pos} (e : X.K = K) (ho : PE X o to) (ha : ∀ v, assign (.Attribute o f pos) X.env v = (do
      let ov ← holding [v] (eval o X.env)
      standAt pos.atName
      holding [v, ov] (setAttr ov f v)
      release [v, ov] []) := by intro _; rfl) : PG X (.Attribute o f pos) (gFld K to f) := by
  subst e
  exact pg_fld ho ha
/-- d != {} -/
def rNeDE : R2 := fun x y H Q => ∃ a b ks, x = .ref a ∧ y = .ref b ∧ H a = some (.dK ks) ∧ H b = some (.dK []) ∧ Q (.bl (!ks.isEmpty)) H
theorem op_neDE (hu : X.A.units < cLine) : OpR X (compareOp .NotEq) rNeDE := by
  intro pins s σ H x y v u Q I rx ry h
  obtain ⟨a, b, ks, rfl, rfl, ea, eb, q⟩ := h
  obtain rfl : v = Value.ref a := rx
  obtain rfl : u = Value.ref b := ry
  obtain ⟨_, ya, va, ra, da⟩ := (show ObjOk X.prog X.w H s.heap a (.dK ks) from I.hok a _ ea)
  obtain ⟨_, yb, vb, rb, db⟩ := (show ObjOk X.prog X.w H s.heap b (.dK []) from I.hok b _ eb)
  have hl : ks.length = va.length := ra.length
  have hb : vb.length = 0 := rb.length.symm
  cases ks with
  | nil => exact PySem.W.keq_ne (knd := mixKind X.prog X.w) (r := true) ya yb da db hu (fun _ => hits_all rb ra fun p hp => by simp at hp) (fin_bl I q (by simp at hl; simp [hb, ← hl]))
  | cons k ks =>
    have h1 : va.length ≠ 0 := by
      rw [← hl]
      simp
    exact PySem.W.keq_ne (knd := mixKind X.prog X.w) (r := true) ya yb da db hu (fun e => absurd (e.trans hb) h1) (fin_bl I q (by simp [hb, h1]))
end
/-! ### dicts walked by items, under a lock -/
theorem Ex.lock {H H' : Hp} {d : Addr} {u : HO} {o : Obj} (hd : H d = some u) (e : Ex (upd H d (.frz o u)) H') : Ex H (upd H' d u) := fun a w h => by
  by_cases q : a = d
  · subst q
    rw [upd_same, ← hd]
    exact h
  · rw [upd_ne q]
    exact e a w (by rw [upd_ne q]; exact h)
/-- each item a tuple of its own -/
def Tups (H : Hp) (xs : List V) (rs : List (List V)) : Prop := xs.length = rs.length ∧ ∀ (i : Nat) r, rs[i]? = some r → ∃ t, xs[i]? = some (.ref t) ∧ H t = some (.tup r)
theorem Tups.ex {H H' : Hp} {xs : List V} {rs : List (List V)} (h : Tups H xs rs) (e : Ex H H') : Tups H' xs rs := ⟨h.1, fun i r hr => let ⟨t, h1, h2⟩ := h.2 i r hr; ⟨t, h1, e _ _ h2⟩⟩
theorem Tups.nil {H : Hp} : Tups H [] [] := ⟨rfl, fun i r h => by simp at h⟩
theorem Tups.snoc {H : Hp} {xs : List V} {rs : List (List V)} {t : Addr} {r : List V} (h : Tups H xs rs) (ht : H t = some (.tup r)) : Tups H (xs ++ [.ref t]) (rs ++ [r]) := by
  refine ⟨by rw [List.length_append, List.length_append, h.1] <;> rfl, fun i q hq => ?_⟩
  by_cases hi : i < rs.length
  · rw [List.getElem?_append_left hi] at hq
    obtain ⟨u, h1, h2⟩ := h.2 i q hq
    exact ⟨u, by rw [List.getElem?_append_left (by rw [h.1]; exact hi)]; exact h1, h2⟩
  · rw [List.getElem?_append_right (by omega)] at hq
    have hl := (List.getElem?_eq_some_iff.mp hq).1
    have e0 : i - rs.length = 0 := by simp at hl; omega
    rw [e0] at hq
    cases hq
    exact ⟨t, by rw [List.getElem?_append_right (by rw [h.1]; omega), h.1, e0] <;> rfl, ht⟩
theorem Tups.mut {H : Hp} {xs : List V} {rs : List (List V)} {p : Addr} {o : HO} (h : Tups H xs rs) (hp : ∀ r, H p ≠ some (.tup r)) : Tups (upd H p o) xs rs := ⟨h.1, fun i r hr => let ⟨t, h1, h2⟩ := h.2 i r hr; ⟨t, h1, by
  have : t ≠ p := fun e => hp r (e ▸ h2)
  rw [upd_ne this]
  exact h2⟩⟩
theorem take_snoc {α : Type} {l : List α} {i : Nat} {x : α} (h : l[i]? = some x) : l.take (i + 1) = l.take i ++ [x] := by
  have hl := (List.getElem?_eq_some_iff.mp h).1
  rw [List.take_add_one, h]
  rfl
section
variable {K : PySem.W.Frag} {σ : L2.St} {H : Hp} {td : TE}
/-- [(v, k) for k, v in d.items()] -/
theorem lc_itemsVK {d : Addr} {kvs : List (Key × V)} {j1 j2 : Nat} {vs : List Nat} (hd : H d = some (.dK kvs)) (hz : kvs.length ≤ 40000) (hj : ∀ x y, (((wipe σ vs).set j1 (some x)).set j2 (some y))[j1]? = some (some x) ∧ (((wipe σ vs).set j1 (some x)).set j2 (some y))[j2]? = some (some y))
    (hw : ∀ x y, wipe (((wipe σ vs).set j1 (some x)).set j2 (some y)) vs = wipe σ vs) (hl : ∀ od, Ev td σ (upd H d (.frz od (.dK kvs))) (.ref d)) (Q : VK)
    (k : ∀ p xs H2, H p = none → Ex H H2 → H2 p = some (.lst xs) → Tups H2 xs (kvs.map fun kv => [kv.2, kV kv.1]) → Q (.ref p) H2) :
    tLockE (tLc (iItems td) (gTup K 2 (gCons (gName j1) (gCons (gName j2) gNil))) tYes (tTup (tCons (tVar j2) (tCons (tVar j1) tNil))) vs) σ H Q := by
  refine ⟨d, .dK kvs, hd, trivial, fun od => ?_⟩
  refine hl od _ (Ex.refl _) _ fun H1 e1 => ⟨d, od, kvs, rfl, e1 _ _ upd_same, fun D hD => ?_⟩
  refine lc_it walk_items (fun i H' => ∃ acc, H D = none ∧ D ≠ d ∧ Ex H1 H' ∧ H' D = some (.lst acc) ∧ Tups H' acc ((kvs.take i).map fun kv => [kv.2, kV kv.1]) ∧ acc.length = i) ?_ ?_ ?_ ?_
  · have nd : D ≠ d := fun e => by rw [e, e1 _ _ upd_same] at hD; cases hD
    refine ⟨[], ?_, nd, Ex.new hD, upd_same, Tups.nil, rfl⟩
    have := fresh_back e1 hD
    rw [upd_ne nd] at this
    exact this
  · rintro i H' hi ⟨acc, _, _, e2, _⟩
    exact e2 _ _ (e1 _ _ upd_same)
  · rintro i x H2 H3 hi ⟨acc, hD0, nd, e2, h2, ht, hlen⟩ ⟨T0, x0, y0, rfl, hT, rfl, fx, fy⟩
    have gi : kvs[i]? = some kvs[i] := List.getElem?_eq_getElem hi
    dsimp only at fx fy
    rw [gi] at fx fy
    cases fx
    cases fy
    have nT : D ≠ T0 := fun e => by rw [e, hT] at h2; cases h2
    refine ⟨T0, _, rfl, .inl (.inl upd_same), rfl, _, _, rfl, _, _, rfl, rfl, hw _ _, ?_⟩
    refine (yes_ok : EvT tYes _ _ true) _ (Ex.refl _) _ fun H4 e4 => ?_
    rw [if_pos rfl]
    have e3 : Ex H2 H4 := (Ex.new hT).trans e4
    refine ⟨_, (hj _ _).2, _, (hj _ _).1, (by show 2 ≤ sizeLine; decide), fun p hp => ⟨acc, ?_, sz_lt (by omega), acc ++ [.ref p], hD0, nd, ?_, upd_same, ?_, by rw [List.length_append, hlen]; rfl⟩⟩
    · rw [upd_ne (ne_of_none (e3 _ _ h2) hp)]
      exact e3 _ _ h2
    · exact Ex.mut ((e2.trans e3).trans (Ex.new hp)) hD
    · rw [take_snoc gi, List.map_append]
      refine Tups.snoc (Tups.mut ((ht.ex e3).ex (Ex.new hp)) ?_) ?_
      · intro r
        rw [upd_ne (ne_of_none (e3 _ _ h2) hp), e3 _ _ h2]
        exact fun z => nomatch z
      · have : p ≠ D := fun e => by rw [e, e3 _ _ h2] at hp; cases hp
        rw [upd_ne this]
        exact upd_same
  · rintro H' ⟨acc, hD0, nd, e2, h2, ht, hlen⟩
    rw [List.take_length] at ht
    have e12 := e1.trans e2
    refine ⟨e12 _ _ upd_same, ?_⟩
    refine k D acc _ hD0 (Ex.lock hd e12) (by rw [upd_ne nd]; exact h2) (ht.mut fun r => ?_)
    rw [e12 _ _ upd_same]
    exact fun z => nomatch z
theorem putK_new {kvs : List (Key × V)} {k : Key} {v : V} (h : k ∉ kvs.map (·.1)) : putK kvs k v = kvs ++ [(k, v)] := by
  unfold putK
  rw [if_neg]
  intro z
  obtain ⟨kv, h1, h2⟩ := List.any_eq_true.mp z
  exact h (List.mem_map.mpr ⟨kv, h1, of_decide_eq_true h2⟩)
theorem filter_take_snoc {α : Type} {l : List α} {i : Nat} {x : α} {f : α → Bool} (h : l[i]? = some x) : (l.take (i + 1)).filter f = if f x = true then (l.take i).filter f ++ [x] else (l.take i).filter f := by
  rw [take_snoc h, List.filter_append]
  cases hf : f x with
  | true => rw [if_pos rfl, List.filter_cons, if_pos hf] <;> rfl
  | false => rw [if_neg (by decide), List.filter_cons, if_neg (by rw [hf]; decide)] <;> exact List.append_nil _
theorem nodup_at {α β : Type} {l : List α} {g : α → β} (hn : (l.map g).Nodup) {i : Nat} {x : α} (h : l[i]? = some x) : g x ∉ (l.take i).map g := by
  have hs : l.map g = (l.take i).map g ++ (g x :: (l.drop (i + 1)).map g) := by
    have e : l = l.take i ++ (x :: l.drop (i + 1)) := by
      have := (List.getElem?_eq_some_iff.mp h)
      obtain ⟨hl, rfl⟩ := this
      rw [← List.drop_eq_getElem_cons hl, List.take_append_drop]
    conv => lhs; rw [e]
    rw [List.map_append, List.map_cons]
  rw [hs] at hn
  intro hm
  have := (List.nodup_append.mp hn).2.2 _ hm _ List.mem_cons_self
  exact this rfl
/-- {k: v for k, v in d.items() if ..} -/
theorem dc_items {d : Addr} {kvs : List (Key × V)} {j1 j2 : Nat} {vs : List Nat} {tt : TT} (f : Key × V → Bool) (hd : H d = some (.dK kvs)) (hz : kvs.length ≤ 40000) (hn : (kvs.map (·.1)).Nodup)
    (hj : ∀ x y, (((wipe σ vs).set j1 (some x)).set j2 (some y))[j1]? = some (some x) ∧ (((wipe σ vs).set j1 (some x)).set j2 (some y))[j2]? = some (some y))
    (hw : ∀ x y, wipe (((wipe σ vs).set j1 (some x)).set j2 (some y)) vs = wipe σ vs) (hl : ∀ od, Ev td σ (upd H d (.frz od (.dK kvs))) (.ref d))
    (ht : ∀ od kv H1, Ex (upd H d (.frz od (.dK kvs))) H1 → kv ∈ kvs → EvT tt (((wipe σ vs).set j1 (some (kV kv.1))).set j2 (some kv.2)) H1 (f kv)) (Q : VK)
    (k : ∀ p H2, H p = none → Ex H H2 → H2 p = some (.dK (kvs.filter f)) → Q (.ref p) H2) :
    tLockE (tDc (iItems td) (gTup K 2 (gCons (gName j1) (gCons (gName j2) gNil))) tt (tVar j1) (tVar j2) vs) σ H Q := by
  refine ⟨d, .dK kvs, hd, trivial, fun od => ?_⟩
  refine hl od _ (Ex.refl _) _ fun H1 e1 => ⟨d, od, kvs, rfl, e1 _ _ upd_same, fun D hD => ?_⟩
  have nd : D ≠ d := fun e => by rw [e, e1 _ _ upd_same] at hD; cases hD
  have hD0 : H D = none := by
    have := fresh_back e1 hD
    rw [upd_ne nd] at this
    exact this
  refine ⟨fun i m H' => m = kvs.length - i ∧ i ≤ kvs.length ∧ Ex H1 H' ∧ H' D = some (.dK ((kvs.take i).filter f)), ⟨kvs.length, by simp, Nat.zero_le _, Ex.new hD, upd_same⟩, ?_⟩
  rintro i m H2 ⟨rfl, hi, e2, h2⟩
  have hdl : H2 d = some (.frz od (.dK kvs)) := e2 _ _ (e1 _ _ upd_same)
  by_cases hlt : i < kvs.length
  · have gi : kvs[i]? = some kvs[i] := List.getElem?_eq_getElem hlt
    refine .inr ⟨walk_items.goes i H2 hlt hdl, fun H' => Ex H1 H' ∧ H' D = some (.dK ((kvs.take (i + 1)).filter f)), fun H' h' => ⟨kvs.length - (i + 1), by omega, rfl, hlt, h'.1, h'.2⟩, ?_⟩
    intro x H3 y
    obtain ⟨T0, x0, y0, rfl, hT, rfl, fx, fy⟩ := walk_items.yields i H2 x H3 hlt hdl y
    dsimp only at fx fy
    rw [gi] at fx fy
    cases fx
    cases fy
    refine ⟨T0, _, rfl, .inl (.inl upd_same), rfl, _, _, rfl, _, _, rfl, rfl, hw _ _, ?_⟩
    have e3 : Ex H2 (upd H2 T0 (.tup [kV kvs[i].1, kvs[i].2])) := Ex.new hT
    refine ht od kvs[i] _ ((e1.trans e2).trans e3) (List.getElem_mem hlt) _ (Ex.refl _) _ fun H4 e4 => ?_
    have e24 := e3.trans e4
    rw [filter_take_snoc gi]
    cases hf : f kvs[i] with
    | false => exact ⟨e2.trans e24, e24 _ _ h2⟩
    | true =>
      refine ⟨_, (hj _ _).1, _, (hj _ _).2, _, kvs[i].1, rfl, e24 _ _ h2, ?_, ?_, ?_⟩
      · refine sz_lt (Nat.lt_of_le_of_lt (List.length_filter_le ..) ?_)
        rw [List.length_take]
        omega
      · exact Ex.mut (e2.trans e24) hD
      · rw [upd_same, putK_new]
        · rfl
        · intro hm
          obtain ⟨kv, h3, h4⟩ := List.mem_map.mp hm
          exact nodup_at hn gi (List.mem_map.mpr ⟨kv, (List.mem_filter.mp h3).1, h4⟩)
  · have e0 : i = kvs.length := by omega
    subst e0
    rw [List.take_length] at h2
    have e12 := e1.trans e2
    exact .inl ⟨walk_items.stops H2 hdl, hdl, k D _ hD0 (Ex.lock hd e12) (by rw [upd_ne nd]; exact h2)⟩
end
/-! ### fields by name -/
theorem lk_hit {f : Str} {v : V} {r : List (Str × V)} : List.lookup f ((f, v) :: r) = some v := by rw [List.lookup_cons, beq_self_eq_true]
theorem lk_miss {f g : Str} {v : V} {r : List (Str × V)} (h : (f == g) = false) : List.lookup f ((g, v) :: r) = List.lookup f r := by rw [List.lookup_cons, h]
theorem lk_nil {f : Str} : List.lookup f ([] : List (Str × V)) = none := rfl
theorem pf_hit {f : Str} {v x : V} {r : List (Str × V)} : putF f v ((f, x) :: r) = (f, v) :: r := if_pos rfl
theorem pf_miss {f g : Str} {v x : V} {r : List (Str × V)} (h : ¬ g = f) : putF f v ((g, x) :: r) = (g, x) :: putF f v r := if_neg h
theorem pf_nil {f : Str} {v : V} : putF f v [] = [(f, v)] := rfl
section
variable {K : PySem.W.Frag} {σ : L2.St} {H H' : Hp} {te to : TE} {v : V} {D : Ends} {tz : TS} {C p dx : Addr} {fs : List (Str × V)} {f : Str}
theorem s_fld (hv : Ev te σ H v) (ho : ∀ H1, Ex H H1 → Ev to σ H1 (.ref p)) (hp : H p = some (.ins C dx fs)) (cl : Cls K C) (na : NoAttr K C f) (hz : fs.length < 1000) (k : ∀ H1, Ex H H1 → D.nx σ (upd H1 p (.ins C dx (putF f v fs)))) : sFld K to te f D σ H :=
  hv H (Ex.refl _) _ fun H1 e1 => ho H1 e1 H1 (Ex.refl _) _ fun H2 e2 => ⟨p, C, dx, fs, rfl, e2 _ _ (e1 _ _ hp), cl, na, hz, k H2 (e1.trans e2)⟩
theorem q_fld (hv : Ev te σ H v) (ho : ∀ H1, Ex H H1 → Ev to σ H1 (.ref p)) (hp : H p = some (.ins C dx fs)) (cl : Cls K C) (na : NoAttr K C f) (hz : fs.length < 1000) (k : ∀ H1, Ex H H1 → tz D σ (upd H1 p (.ins C dx (putF f v fs)))) : tSeq (sFld K to te f) tz D σ H :=
  s_fld (D := { D with nx := tz D }) hv ho hp cl na hz k
end
theorem dps_of_tups {K : PySem.W.Frag} {H : Hp} {α : Type} (r : α → List V) (dd : α → PyData) (h : ∀ a t, H t = some (.tup (r a)) → Dp K H (.ref t) (dd a)) : ∀ {as : List α} {xs : List V}, Tups H xs (as.map r) → DpAll K H xs (as.map dd)
  | [], xs, q => by
    have := q.1
    rw [List.map_nil, List.length_nil] at this
    rw [List.eq_nil_of_length_eq_zero this]
    exact .nil
  | a :: as, [], q => by
    have := q.1
    simp at this
  | a :: as, x :: xs, q => by
    obtain ⟨t, h1, h2⟩ := q.2 0 (r a) rfl
    cases h1
    refine .cons (h a t h2) (dps_of_tups r dd h ⟨by have := q.1; simpa using this, fun i s hs => ?_⟩)
    have := q.2 (i + 1) s (by simpa using hs)
    simpa using this
theorem given_filter (l : List Int) (f : Int → Bool) : given l.length (fun i => f (l.getD i 0)) (fun i => V.int (l.getD i 0)) = (l.filter f).map V.int := by
  unfold given
  have e : l = (List.range l.length).map fun i => l.getD i 0 := by
    refine List.ext_getElem (by simp) fun i h1 h2 => ?_
    simp [List.getD_eq_getElem?_getD, List.getElem?_eq_getElem h1]
  conv => rhs; rw [e]
  rw [List.filter_map, List.map_map]
  rfl
section
variable {K : PySem.W.Frag} {σ : L2.St} {H H' : Hp} {te to : TE} {xs : List V} {D : Ends} {tz : TS} {g : TG}
theorem q_asgUG (h : EvU te σ H xs) (k : ∀ p H1, H p = none → Ex H H1 → H1 p = some (.tup xs) → g (.ref p) σ H1 (tz D)) : tSeq (tAsg te g) tz D σ H := h H (Ex.refl H) _ k
theorem s_asgUG (h : EvU te σ H xs) (k : ∀ p H1, H p = none → Ex H H1 → H1 p = some (.tup xs) → g (.ref p) σ H1 D.nx) : tAsg te g D σ H := h H (Ex.refl H) _ k
end
/-! ### up to a word of the value and the heap -/
def EvX (te : TE) (σ : L2.St) (H : Hp) (R : V → Hp → Prop) : Prop := ∀ Q : VK, (∀ v H1, R v H1 → Q v H1) → te σ H Q
section
variable {K : PySem.W.Frag} {σ : L2.St} {H H' : Hp} {te to ta : TE} {R R' : V → Hp → Prop} {D : Ends} {tz : TS} {g : TG} {f : Str} {r : List V → Hp → VK → Prop}
theorem evx_cb1 (h : EvX te σ H R) (k : ∀ v H1, R v H1 → ∀ Q : VK, (∀ z H2, R' z H2 → Q z H2) → r [v] H1 Q) : EvX (tCB r (tCons te tNil)) σ H R' := fun Q q => h _ fun v H1 hr => k v H1 hr Q q
theorem q_fldX (h : EvX te σ H R) (k : ∀ v H1, R v H1 → to σ H1 fun x H2 => ∃ a C dx fs, x = .ref a ∧ H2 a = some (.ins C dx fs) ∧ Cls K C ∧ NoAttr K C f ∧ fs.length < 1000 ∧ tz D σ (upd H2 a (.ins C dx (putF f v fs)))) : tSeq (sFld K to te f) tz D σ H := h _ k
theorem s_fldX (h : EvX te σ H R) (k : ∀ v H1, R v H1 → to σ H1 fun x H2 => ∃ a C dx fs, x = .ref a ∧ H2 a = some (.ins C dx fs) ∧ Cls K C ∧ NoAttr K C f ∧ fs.length < 1000 ∧ D.nx σ (upd H2 a (.ins C dx (putF f v fs)))) : sFld K to te f D σ H := h _ k
theorem q_asgX (h : EvX te σ H R) (k : ∀ v H1, R v H1 → g v σ H1 (tz D)) : tSeq (tAsg te g) tz D σ H := h _ k
theorem s_asgX (h : EvX te σ H R) (k : ∀ v H1, R v H1 → g v σ H1 D.nx) : tAsg te g D σ H := h _ k
theorem s_retX (h : EvX te σ H R) (k : ∀ v H1, R v H1 → D.rt v H1) : tRet te D σ H := h _ k
theorem q_dropX (h : EvX te σ H R) (k : ∀ v H1, R v H1 → tz D σ H1) : tSeq (tDrop te) tz D σ H := h _ k
theorem s_dropX (h : EvX te σ H R) (k : ∀ v H1, R v H1 → D.nx σ H1) : tDrop te D σ H := h _ k
end
/-- for j in range(e), e drawn -/
theorem s_forD {b : Addr × Addr} {σ : L2.St} {H : Hp} {te : TE} {tu : TS} {D : Ends} {j : Nat} {N : Int} (hb : Bag H b) (h : DrI b te σ H fun n => 0 ≤ n ∧ n ≤ N) (hN : N ≤ 100000) (Pv : Nat → L2.St → Hp → Prop) (h0 : ∀ H1, Step b H H1 → Pv 0 σ H1)
    (hs : ∀ (i : Nat) σ' H', (i : Int) < N → Pv i σ' H' → tu { D with nx := Pv (i + 1), ct := Pv (i + 1), bk := D.nx } (σ'.set j (some (.int (i : Int)))) H') (hd : ∀ i σ' H', Pv i σ' H' → D.nx σ' H') : tFor (iRng1 (tCons te tNil)) (gName j) tu D σ H :=
  h H (.refl hb) _ fun n H1 s1 hn => ⟨n, rfl, by omega, by omega, for_range (lo := 0) (n := n.toNat) Pv (h0 H1 s1) (fun i σ' H' hi p => by
    have e0 : (0 : Int) + (i : Int) = (i : Int) := Int.zero_add _
    show tu { D with nx := Pv (i + 1), ct := Pv (i + 1), bk := D.nx } (σ'.set j (some (.int ((0 : Int) + (i : Int))))) H'
    rw [e0]
    exact hs i σ' H' (by omega) p) (hd _)⟩
theorem q_forD {b : Addr × Addr} {σ : L2.St} {H : Hp} {te : TE} {tu : TS} {D : Ends} {tz : TS} {j : Nat} {N : Int} (hb : Bag H b) (h : DrI b te σ H fun n => 0 ≤ n ∧ n ≤ N) (hN : N ≤ 100000) (Pv : Nat → L2.St → Hp → Prop) (h0 : ∀ H1, Step b H H1 → Pv 0 σ H1)
    (hs : ∀ (i : Nat) σ' H', (i : Int) < N → Pv i σ' H' → tu { D with nx := Pv (i + 1), ct := Pv (i + 1), bk := tz D } (σ'.set j (some (.int (i : Int)))) H') (hd : ∀ i σ' H', Pv i σ' H' → tz D σ' H') : tSeq (tFor (iRng1 (tCons te tNil)) (gName j) tu) tz D σ H :=
  s_forD (D := { D with nx := tz D }) hb h hN Pv h0 hs hd
/-- if take(b, ..) == 0: either way -/
theorem q_any {b : Addr × Addr} {σ : L2.St} {H : Hp} {t : TT} {D : Ends} {tz ta tb : TS} (h : TAny (Step b) t σ H) (h1 : ∀ H2, Step b H H2 → ta { D with nx := tz D } σ H2) (h2 : ∀ H2, Step b H H2 → tb { D with nx := tz D } σ H2) : tSeq (tIfS t ta tb) tz D σ H := h _ fun c H2 s => by
  cases c with
  | true => exact h1 H2 s
  | false => exact h2 H2 s
theorem tany_dri {b : Addr × Addr} {σ : L2.St} {H : Hp} {te : TE} {p : Int → Prop} {c : Int} (hb : Bag H b) (h : DrI b te σ H p) : TAny (Step b) (tTest (tOp rEq te (tC (.int c)))) σ H := fun Q q =>
  h H (.refl hb) _ fun i H1 s _ => ⟨rfl, _, rfl, q _ _ s⟩
theorem tany_lt {b : Addr × Addr} {σ : L2.St} {H : Hp} {te : TE} {p : Int → Prop} {c : Int} (hb : Bag H b) (h : DrI b te σ H p) : TAny (Step b) (tTest (tOp (rI0 fun i j => .bl (decide (i < j))) te (tC (.int c)))) σ H := fun Q q =>
  h H (.refl hb) _ fun i H1 s _ => ⟨_, _, rfl, rfl, _, rfl, q _ _ s⟩
/-- max(a, e) -/
theorem dri_max2 {b : Addr × Addr} {σ : L2.St} {H : Hp} {ta tb : TE} {p q r : Int → Prop} (h1 : DrI b ta σ H p) (h2 : DrI b tb σ H q) (h : ∀ i j, p i → q j → r (if j > i then j else i)) : DrI b (tCB (fun xs H Q => ∃ i j, xs = [V.int i, V.int j] ∧ Q (.int (if j > i then j else i)) H) (tCons ta (tCons tb tNil))) σ H r := fun H1 s Q k =>
  h1 H1 s _ fun i H2 s2 pi => h2 H2 (s.trans s2) _ fun j H3 s3 qj => ⟨i, j, rfl, k _ H3 (s2.trans s3) (h i j pi qj)⟩
section
variable {K : PySem.W.Frag} {b : Addr × Addr} {σ : L2.St} {H : Hp} {ta tb ti te : TE} {p q r : Int → Prop} {D : Ends} {tz : TS}
theorem q_parD {i j : Nat} (hb : Bag H b) (h1 : DrI b ta σ H p) (h2 : DrI b tb σ H q) (k : ∀ x y H1, Step b H H1 → p x → q y → tz D ((σ.set i (some (.int x))).set j (some (.int y))) H1) : tSeq (tPar i j (tCons ta (tCons tb tNil))) tz D σ H :=
  h1 H (.refl hb) _ fun x H1 s1 px => h2 H1 s1 _ fun y H2 s2 qy => ⟨_, _, rfl, k x y H2 (s1.trans s2) px qy⟩
theorem dri_ixL {a : Addr} {j : Nat} {os : List Int} (hσ : σ[j]? = some (some (.ref a))) (ha : H a = some (.lst (os.map V.int))) (na : a ≠ b.1) (hi : DrI b ti σ H fun i => 0 ≤ i ∧ i < os.length) (hp : ∀ o ∈ os, p o) : DrI b (tOp (rIxL K) (tVar j) ti) σ H p := fun H1 s Q k =>
  ⟨_, hσ, hi H1 s _ fun i H2 s2 ⟨i0, i1⟩ => by
    obtain ⟨n, rfl⟩ := Int.eq_ofNat_of_zero_le i0
    have hn : n < os.length := by omega
    exact ⟨a, os.map V.int, (n : Int), .int os[n], rfl, rfl, sq_of ((s.trans s2).at na ha), atI_nat (by rw [List.getElem?_map, List.getElem?_eq_getElem hn]; rfl), k _ H2 s2 (hp _ (List.getElem_mem hn))⟩⟩
theorem dri_lenL {a : Addr} {j : Nat} {xs : List V} (hσ : σ[j]? = some (some (.ref a))) (ha : H a = some (.lst xs)) (na : a ≠ b.1) (hp : p xs.length) : DrI b (tCB (rLen K) (tCons (tVar j) tNil)) σ H p := fun H1 s Q k =>
  ⟨_, hσ, a, xs, rfl, .inl (sq_of (s.at na ha)), k _ H1 (.refl s.1) hp⟩
theorem dri_ev {i : Int} (h : ∀ H1, Step b H H1 → Ev te σ H1 (.int i)) (hp : p i) : DrI b te σ H p := fun H1 s Q k => h H1 s H1 (Ex.refl _) Q fun H2 e => k i H2 (.pure s.1 e) hp
end
section
variable {K : PySem.W.Frag} {σ : L2.St} {H : Hp} {ta tb te : TE} {R : V → Hp → Prop} {S : V → V → Hp → Prop} {D : Ends} {tz tu : TS} {xs : List V} {E : XK}
theorem EvL.x (h : EvL te σ H xs) : EvX te σ H fun v H1 => ∃ p, v = .ref p ∧ H p = none ∧ Ex H H1 ∧ H1 p = some (.lst xs) := fun Q q => h H (Ex.refl _) Q fun p H1 h0 e h1 => q _ _ ⟨p, rfl, h0, e, h1⟩
theorem EvU.x (h : EvU te σ H xs) : EvX te σ H fun v H1 => ∃ p, v = .ref p ∧ H p = none ∧ Ex H H1 ∧ H1 p = some (.tup xs) := fun Q q => h H (Ex.refl _) Q fun p H1 h0 e h1 => q _ _ ⟨p, rfl, h0, e, h1⟩
theorem Ev.x {v : V} (h : Ev te σ H v) : EvX te σ H fun u H1 => u = v ∧ Ex H H1 := fun Q q => h H (Ex.refl _) Q fun H1 e => q _ _ ⟨rfl, e⟩
/-- if not alike(a, b): return False -/
theorem s_alikeX (h1 : EvX ta σ H R) (h2 : ∀ v H1, R v H1 → EvX tb σ H1 (S v)) (h : ∀ v u H2, S v u H2 → ∃ d, Dp K H2 v d ∧ Dp K H2 u d ∧ Wm.Rep 60 1000000 d) (k : ∀ v u H2 H3, S v u H2 → Ex H2 H3 → D.nx σ H3) : tIfS (tNot (tB (tCl (Wm.spAlike K) E (tCons ta (tCons tb tNil))))) tu tNext D σ H :=
  h1 _ fun v H1 r1 => h2 v H1 r1 _ fun u H2 r2 => let ⟨d, hv, hu, hr⟩ := h v u H2 r2; ⟨v, u, d, rfl, hv, hu, hr, fun H3 e3 => ⟨true, rfl, k v u H2 H3 r2 e3⟩⟩
theorem q_alikeX (h1 : EvX ta σ H R) (h2 : ∀ v H1, R v H1 → EvX tb σ H1 (S v)) (h : ∀ v u H2, S v u H2 → ∃ d, Dp K H2 v d ∧ Dp K H2 u d ∧ Wm.Rep 60 1000000 d) (k : ∀ v u H2 H3, S v u H2 → Ex H2 H3 → tz D σ H3) : tSeq (tIfS (tNot (tB (tCl (Wm.spAlike K) E (tCons ta (tCons tb tNil))))) tu tNext) tz D σ H := s_alikeX (D := { D with nx := tz D }) h1 h2 h k
end
section
variable {X : Cx}
/-- d.update(e), e another dict -/
def rUpdate : V → List V → Hp → VK → Prop := fun x vs H Q => ∃ a b ks ls, x = .ref a ∧ vs = [.ref b] ∧ H a = some (.dK ks) ∧ H b = some (.dK ls) ∧ a ≠ b ∧ ks.length + ls.length ≤ sizeLine ∧ Q .non (upd H a (.dK (mergeK ks ls)))
theorem mt_update : MtR X "dict.update" rUpdate := by
  intro pins s σ H x vs v us Q I rx rv h
  obtain ⟨a, b, ks, ls, rfl, rfl, ha, hb, ne, hz, q⟩ := h
  obtain rfl : v = Value.ref a := rx
  obtain ⟨u, rfl, ru⟩ := rv.one
  obtain rfl : u = Value.ref b := ru
  obtain ⟨z, hd, va, rel, dd⟩ := dk_of I.hok ha
  obtain ⟨z2, hd2, vb, rel2, dd2⟩ := dk_of I.hok hb
  refine call_meetsIn PySem.F.slot_dict_update dd.typeIs PySem.F.entry_dict_update (PySem.F.args_dict_update_2 _ _) (meets_dict_update (mixKind X.prog X.w) a b ne hd2) ⟨va, vb, dd, dd2, by rw [← rel.length, ← rel2.length]; exact hz, fun h' dd' _ hs => ?_⟩
  have he : ∃ q, h'.get? a = some q := let ⟨q, _, _, hq, _⟩ := dd'; ⟨q, hq⟩
  have hl : (mergeK ks ls).length ≤ sizeLine := Nat.le_trans (length_mergeK _ _) hz
  exact ⟨.non, _, d_write I (by rw [ha]; exact True.intro) hs he (dk_new hl hd (KV.merge rel2 rel) dd'), rfl, q⟩
end
/-! ### dicts walked by keys, under a lock -/
section
variable {K : PySem.W.Frag} {σ : L2.St} {H : Hp} {td te : TE} {tt : TT} {ta : TA}
theorem lc_keysV {d : Addr} {kvs : List (Key × V)} {j : Nat} {vs : List Nat} (f : Nat → Bool) (v : Nat → V) (hd : H d = some (.dK kvs)) (hz : kvs.length ≤ 40000) (hw : ∀ x, wipe ((wipe σ vs).set j (some x)) vs = wipe σ vs) (hl : ∀ od, Ev td σ (upd H d (.frz od (.dK kvs))) (.ref d))
    (ht : ∀ od (i : Nat) kv H1, Ex (upd H d (.frz od (.dK kvs))) H1 → kvs[i]? = some kv → EvT tt ((wipe σ vs).set j (some (kV kv.1))) H1 (f i))
    (he : ∀ od (i : Nat) kv H1, Ex (upd H d (.frz od (.dK kvs))) H1 → kvs[i]? = some kv → f i = true → Ev te ((wipe σ vs).set j (some (kV kv.1))) H1 (v i)) :
    EvX (tLockE (tLc (iKeys td) (gName j) tt te vs)) σ H fun u H2 => ∃ p, u = .ref p ∧ H p = none ∧ Ex H H2 ∧ H2 p = some (.lst (given kvs.length f v)) := by
  intro Q q
  refine ⟨d, .dK kvs, hd, trivial, fun od => ?_⟩
  refine hl od _ (Ex.refl _) _ fun H1 e1 => ⟨d, od, rfl, .inl ⟨kvs, e1 _ _ upd_same, fun D hD => ?_⟩⟩
  have nd : D ≠ d := fun e => by rw [e, e1 _ _ upd_same] at hD; cases hD
  have hD0 : H D = none := by
    have := fresh_back e1 hD
    rw [upd_ne nd] at this
    exact this
  refine lc_it walk_keys (Cw H1 f v D) ⟨hD, Ex.new hD, upd_same⟩ (fun i H' _ p => p.2.1 _ _ (e1 _ _ upd_same)) ?_ fun H' p => ?_
  · rintro i x H2 H3 hi p ⟨rfl, k, u, hk, rfl⟩
    exact ⟨hw _, cw_turn p (by omega) (ht od i (k, u) H1 e1 hk) (fun hf => he od i (k, u) H1 e1 hk hf)⟩
  · have e12 := e1.trans p.2.1
    exact ⟨e12 _ _ upd_same, q _ _ ⟨D, rfl, hD0, Ex.lock hd e12, by rw [upd_ne nd]; exact p.2.2⟩⟩
theorem lc_keysU {d : Addr} {kvs : List (Key × V)} {j : Nat} {vs : List Nat} (v : Key × V → List V) (hd : H d = some (.dK kvs)) (hz : kvs.length ≤ 40000) (hw : ∀ x, wipe ((wipe σ vs).set j (some x)) vs = wipe σ vs) (hl : ∀ od, Ev td σ (upd H d (.frz od (.dK kvs))) (.ref d))
    (he : ∀ od kv H1, Ex (upd H d (.frz od (.dK kvs))) H1 → kv ∈ kvs → EvU te ((wipe σ vs).set j (some (kV kv.1))) H1 (v kv)) :
    EvX (tLockE (tLc (iKeys td) (gName j) tYes te vs)) σ H fun u H2 => ∃ p xs, u = .ref p ∧ H p = none ∧ Ex H H2 ∧ H2 p = some (.lst xs) ∧ Tups H2 xs (kvs.map v) := by
  intro Q q
  refine ⟨d, .dK kvs, hd, trivial, fun od => ?_⟩
  refine hl od _ (Ex.refl _) _ fun H1 e1 => ⟨d, od, rfl, .inl ⟨kvs, e1 _ _ upd_same, fun D hD => ?_⟩⟩
  have nd : D ≠ d := fun e => by rw [e, e1 _ _ upd_same] at hD; cases hD
  have hD0 : H D = none := by
    have := fresh_back e1 hD
    rw [upd_ne nd] at this
    exact this
  refine lc_it walk_keys (fun i H' => ∃ acc, Ex H1 H' ∧ H' D = some (.lst acc) ∧ Tups H' acc ((kvs.take i).map v) ∧ acc.length = i) ⟨[], Ex.new hD, upd_same, Tups.nil, rfl⟩ (fun i H' _ p => let ⟨_, e2, _⟩ := p; e2 _ _ (e1 _ _ upd_same)) ?_ ?_
  · rintro i x H2 H3 hi ⟨acc, e2, h2, ht, hlen⟩ ⟨rfl, k, u, hk, rfl⟩
    refine ⟨hw _, ?_⟩
    refine (yes_ok : EvT tYes _ _ true) _ (Ex.refl _) _ fun H4 e4 => ?_
    rw [if_pos rfl]
    refine he od (k, u) _ ((e1.trans e2).trans e4) (List.mem_of_getElem? hk) _ (Ex.refl _) _ fun p H5 p0 e5 hp => ⟨acc, e5 _ _ (e4 _ _ h2), sz_lt (by omega), acc ++ [.ref p], Ex.mut ((e2.trans e4).trans e5) hD, upd_same, ?_, by rw [List.length_append, hlen]; rfl⟩
    have h25 := e5 _ _ (e4 _ _ h2)
    rw [take_snoc hk, List.map_append]
    refine Tups.snoc (Tups.mut (ht.ex (e4.trans e5)) ?_) ?_
    · intro r
      rw [h25]
      exact fun z => nomatch z
    · have : p ≠ D := fun e => by rw [e, e4 _ _ h2] at p0; cases p0
      rw [upd_ne this]
      exact hp
  · rintro H' ⟨acc, e2, h2, ht, hlen⟩
    rw [List.take_length] at ht
    have e12 := e1.trans e2
    refine ⟨e12 _ _ upd_same, q _ _ ⟨D, acc, rfl, hD0, Ex.lock hd e12, by rw [upd_ne nd]; exact h2, ht.mut fun r => ?_⟩⟩
    rw [e12 _ _ upd_same]
    exact fun z => nomatch z
end
theorem mergeK_new : ∀ {ls ks : List (Key × V)}, ((ks ++ ls).map (·.1)).Nodup → mergeK ks ls = ks ++ ls
  | [], ks, _ => (List.append_nil ks).symm
  | p :: ls, ks, h => by
    have hp : p.1 ∉ ks.map (·.1) := by
      rw [List.map_append, List.map_cons, List.nodup_append] at h
      intro hm
      exact h.2.2 _ hm _ List.mem_cons_self rfl
    show mergeK (putK ks p.1 p.2) ls = _
    rw [putK_new hp, mergeK_new (by rw [List.append_assoc]; exact h), List.append_assoc]
    rfl
/-- int(e == c) -/
theorem dri_eqI {b : Addr × Addr} {σ : L2.St} {H : Hp} {ta : TE} {p : Int → Prop} {c : Int} (h1 : DrI b ta σ H p) : DrI b (tCB (fun xs H Q => (∃ i, xs = [V.int i] ∧ Q (.int i) H) ∨ ∃ k, xs = [V.bl k] ∧ Q (.int (if k then 1 else 0)) H) (tCons (tOp rEq ta (tC (.int c))) tNil)) σ H fun x => 0 ≤ x ∧ x < 2 := fun H1 s Q k =>
  h1 H1 s _ fun i H2 s2 pi => ⟨rfl, .inr ⟨_, rfl, k _ H2 s2 (by split <;> omega)⟩⟩
end Lf
end
section
set_option Elab.async false
set_option linter.all false
set_option maxRecDepth 100000
set_option maxHeartbeats 4000000
/-! Ly: setdefault with a key that is a tuple. -/
namespace Lf
open PySem PySem.Spec PyProof.Rows L2
open Evl
variable {X : Cx}
theorem u2 {k : Nat} {A : Around} (hr : Room k A) : A.units + 1 < cLine := by have := hr.un; omega
def rSetdT : V → List V → Hp → VK → Prop := fun x xs H Q => ∃ (a : Addr) (kvs : List (List L2.Key × V)) (k : List L2.Key) (b : Addr) (d : V), x = .ref a ∧ xs = [.ref b, d] ∧ H a = some (.dT kvs) ∧ H b = some (.tup (k.map kV)) ∧ kvs.length < sizeLine ∧
  (∀ v, valV kvs k = some v → Q v H) ∧ (valV kvs k = none → Q d (upd H a (.dT (putK kvs k d))))
theorem mt_setdT (hu : X.A.units + 1 < cLine) : MtR X "dict.setdefault" rSetdT := by
  intro pins s σ H x xs v us Q I rx rxs h
  obtain ⟨a, kvs, k, b, d, rfl, rfl, ha, hb, hl, q1, q2⟩ := h
  cases rx
  obtain ⟨u1, u2, rfl, r1, r2⟩ := vals2 rxs
  cases r1
  obtain ⟨z, hd, xs', rel, dd⟩ := dt_of I.hok ha
  have hz : xs'.length ≤ sizeLine := by rw [← Paired.length rel]; exact z
  refine call_setdefault_heap (hsz := hz) (tupleKind_room_in1 hu) (key_of I.hok hb) hd dd (fun p hp => ?_) fun hn h' dd' hs => ?_
  · have r := rel.val k
    rw [hp] at r
    obtain ⟨v0, ev, rv⟩ : ∃ v0, valV kvs k = some v0 ∧ RelV v0 p.2 := by
      cases ev : valV kvs k with
      | none =>
        rw [ev] at r
        exact (show False from r).elim
      | some v0 =>
        rw [ev] at r
        exact ⟨v0, rfl, r⟩
    show EP X pins σ Q p.2 _
    exact ⟨v0, H, I.tok _, rv, q1 v0 ev⟩
  · have r := rel.val k
    rw [hn] at r
    have e : valV kvs k = none := by
      cases ev : valV kvs k with
      | none => rfl
      | some v0 =>
        rw [ev] at r
        exact (show False from r).elim
    have hl2 : (putK kvs k d).length ≤ sizeLine := by have := length_putK kvs k d; omega
    obtain ⟨q, es, ep, hq, h2, h3, h4, _, h5⟩ := dd'
    refine ⟨d, upd H a (.dT (putK kvs k d)), d_write I (by rw [ha]; exact True.intro) hs ⟨q, hq⟩ ⟨hl2, hd, _, (rel.put k hb r2).keeps fun c ys ec => ?_, q, es, ep, hq, h2, h3, h4, h5⟩, r2, q2 e⟩
    rw [upd_ne (ne_of ec ha (fun z => nomatch z))]
    exact ec
end Lf
end
section
set_option Elab.async false
set_option linter.all false
set_option maxRecDepth 100000
set_option maxHeartbeats 4000000
namespace K48
local macro_rules | `(tactic| walk_at "pos") => `(tactic| (show (0 : Int) < _; first | decide | omega))
open PySem PySem.Spec PyProof.Rows L2 Lf 
open Evl
local macro_rules | `(tactic| walk_at "lk") => `(tactic| (simp (disch := decide +kernel) only [lk_hit, lk_miss, lk_nil]))
local macro_rules | `(tactic| walk_at "pf") => `(tactic| (simp (disch := decide +kernel) only [pf_hit, pf_miss, pf_nil]))
def topS (i : Nat) : Stmt := PySem.Challenge.pw_listenfield_k48_whole_any_order_between.main.body.getD i (.Pass ⟨0, 0, 0, 0⟩)
abbrev s_number_of : Stmt := topS 1
abbrev ns_number_of : List Str := ["thing", "ahead", "behind"]
theorem sc_number_of : FnScope ns_number_of ["thing"] (defScope s_number_of) := ⟨rfl, rfl, rfl, by decide +kernel, rfl, by decide +kernel, by decide +kernel⟩
abbrev s_lw_bag : Stmt := topS 5
abbrev ns_lw_bag : List Str := ["_law_script", "_law_cell"]
theorem sc_lw_bag : FnScope ns_lw_bag ["_law_script"] (defScope s_lw_bag) := ⟨rfl, rfl, rfl, by decide +kernel, rfl, by decide +kernel, by decide +kernel⟩
abbrev s_lw_take : Stmt := topS 6
abbrev ns_lw_take : List Str := ["_law_bag_here", "_law_many", "_law_cell", "_law_value", "_law_first", "_law_second"]
theorem sc_lw_take : FnScope ns_lw_take ["_law_bag_here", "_law_many"] (defScope s_lw_take) := ⟨rfl, rfl, rfl, by decide +kernel, rfl, by decide +kernel, by decide +kernel⟩
abbrev s_lw_alike : Stmt := topS 7
abbrev ns_lw_alike : List Str := ["_law_found", "_law_due"]
theorem sc_lw_alike : FnScope ns_lw_alike ["_law_found", "_law_due"] (defScope s_lw_alike) := ⟨rfl, rfl, rfl, by decide +kernel, rfl, by decide +kernel, by decide +kernel⟩
abbrev s_lw_said : Stmt := topS 8
abbrev ns_lw_said : List Str := ["_law_bag_here", "_law_others", "_law_many", "_law_turn", "_law_spoken", "_law_one", "_law_back", "_law_level"]
theorem sc_lw_said : FnScope ns_lw_said ["_law_bag_here", "_law_others", "_law_many", "_law_turn", "_law_spoken"] (defScope s_lw_said) := ⟨rfl, rfl, rfl, by decide +kernel, rfl, by decide +kernel, by decide +kernel⟩
abbrev s_lw_shuffled : Stmt := topS 9
abbrev ns_lw_shuffled : List Str := ["_law_bag_here", "_law_rows", "_law_left", "_law_found", "_law_row"]
theorem sc_lw_shuffled : FnScope ns_lw_shuffled ["_law_bag_here", "_law_rows"] (defScope s_lw_shuffled) := ⟨rfl, rfl, rfl, by decide +kernel, rfl, by decide +kernel, by decide +kernel⟩
abbrev s_law : Stmt := topS 10
abbrev ns_law : List Str := ["_law_script", "_law_bag_here", "_law_many", "_law_place", "_law_others", "_law_quiet", "_law_both", "_law_turn", "_law_spoken", "_law_k", "_law_rows", "_law_one", "_law_level", "_law_back", "_law_found", "_law_j", "_law_levels"]
theorem sc_law : FnScope ns_law ["_law_script"] (defScope s_law) := ⟨rfl, rfl, rfl, by decide +kernel, rfl, by decide +kernel, by decide +kernel⟩
abbrev s_Levels__init : Stmt := inClass (topS 3) 0
abbrev ns_Levels__init : List Str := ["self", "place", "many"]
theorem sc_Levels__init : FnScope ns_Levels__init ["self", "place", "many"] (defScope s_Levels__init) := ⟨rfl, rfl, rfl, by decide +kernel, rfl, by decide +kernel, by decide +kernel⟩
abbrev s_Levels_level : Stmt := inClass (topS 3) 1
abbrev ns_Levels_level : List Str := ["self"]
theorem sc_Levels_level : FnScope ns_Levels_level ["self"] (defScope s_Levels_level) := ⟨rfl, rfl, rfl, by decide +kernel, rfl, by decide +kernel, by decide +kernel⟩
abbrev s_Levels_head : Stmt := inClass (topS 3) 2
abbrev ns_Levels_head : List Str := ["self"]
theorem sc_Levels_head : FnScope ns_Levels_head ["self"] (defScope s_Levels_head) := ⟨rfl, rfl, rfl, by decide +kernel, rfl, by decide +kernel, by decide +kernel⟩
abbrev s_Levels_hears : Stmt := inClass (topS 3) 3
abbrev ns_Levels_hears : List Str := ["self", "neighbour", "level", "turn", "near", "now"]
theorem sc_Levels_hears : FnScope ns_Levels_hears ["self", "neighbour", "level", "turn"] (defScope s_Levels_hears) := ⟨rfl, rfl, rfl, by decide +kernel, rfl, by decide +kernel, by decide +kernel⟩
abbrev s_Levels_at_slot : Stmt := inClass (topS 3) 4
abbrev ns_Levels_at_slot : List Str := ["self", "turn", "quiet", "eldest", "near", "level"]
theorem sc_Levels_at_slot : FnScope ns_Levels_at_slot ["self", "turn", "quiet"] (defScope s_Levels_at_slot) := ⟨rfl, rfl, rfl, by decide +kernel, rfl, by decide +kernel, by decide +kernel⟩
abbrev s_Levels_copied : Stmt := inClass (topS 3) 5
abbrev ns_Levels_copied : List Str := ["self", "twin"]
theorem sc_Levels_copied : FnScope ns_Levels_copied ["self"] (defScope s_Levels_copied) := ⟨rfl, rfl, rfl, by decide +kernel, rfl, by decide +kernel, by decide +kernel⟩
abbrev s_Levels_find : Stmt := inClass (topS 3) 6
abbrev ns_Levels_find : List Str := ["self", "least", "near", "level"]
theorem sc_Levels_find : FnScope ns_Levels_find ["self"] (defScope s_Levels_find) := ⟨rfl, rfl, rfl, by decide +kernel, rfl, by decide +kernel, by decide +kernel⟩
structure Top (K : PySem.W.Frag) (mg : Str → Option Value) (CLevels : Addr) : Prop where
  n_abs : mg "abs" = none
  n_bool : mg "bool" = none
  n_dict : mg "dict" = none
  n_int : mg "int" = none
  n_isinstance : mg "isinstance" = none
  n_len : mg "len" = none
  n_list : mg "list" = none
  n_max : mg "max" = none
  n_min : mg "min" = none
  n_range : mg "range" = none
  n_repr : mg "repr" = none
  n_sorted : mg "sorted" = none
  d_number_of : Df K mg "number_of" s_number_of ["thing"]
  d_lw_bag : Df K mg "_law_bag" s_lw_bag ["_law_script"]
  d_lw_take : Df K mg "_law_take" s_lw_take ["_law_bag_here", "_law_many"]
  d_lw_alike : Df K mg "_law_alike" s_lw_alike ["_law_found", "_law_due"]
  d_lw_said : Df K mg "_law_said" s_lw_said ["_law_bag_here", "_law_others", "_law_many", "_law_turn", "_law_spoken"]
  d_lw_shuffled : Df K mg "_law_shuffled" s_lw_shuffled ["_law_bag_here", "_law_rows"]
  cl_Levels : Cls K CLevels
  hm_Levels : mg "Levels" = some (.ref CLevels)
  mk_Levels : ∀ f, Meth K CLevels "__init__" f → Mk K CLevels f
  a_Levels_place : NoAttr K CLevels "_place"
  a_Levels_many : NoAttr K CLevels "_many"
  a_Levels_level : NoAttr K CLevels "_level"
  a_Levels_head : NoAttr K CLevels "_head"
  a_Levels_spoken : NoAttr K CLevels "_spoken"
  a_Levels_kept : NoAttr K CLevels "_kept"
  d_Levels__init : Md K CLevels "__init__" "Levels.__init__" s_Levels__init ["self", "place", "many"]
  d_Levels_level : Md K CLevels "level" "Levels.level" s_Levels_level ["self"]
  d_Levels_head : Md K CLevels "head" "Levels.head" s_Levels_head ["self"]
  d_Levels_hears : Md K CLevels "hears" "Levels.hears" s_Levels_hears ["self", "neighbour", "level", "turn"]
  d_Levels_at_slot : Md K CLevels "at_slot" "Levels.at_slot" s_Levels_at_slot ["self", "turn", "quiet"]
  d_Levels_copied : Md K CLevels "copied" "Levels.copied" s_Levels_copied ["self"]
  d_Levels_find : Md K CLevels "_find" "Levels._find" s_Levels_find ["self"]
end K48
end
section
set_option Elab.async false
set_option linter.all false
set_option maxRecDepth 100000
set_option maxHeartbeats 4000000
namespace K48
local macro_rules | `(tactic| walk_at "pos") => `(tactic| (show (0 : Int) < _; first | decide | omega))
open PySem PySem.Spec PyProof.Rows L2 Lf 
open Evl
local macro_rules | `(tactic| walk_at "lk") => `(tactic| (simp (disch := decide +kernel) only [lk_hit, lk_miss, lk_nil]))
local macro_rules | `(tactic| walk_at "pf") => `(tactic| (simp (disch := decide +kernel) only [pf_hit, pf_miss, pf_nil]))
section
variable {P : Program} {w : World} {K : PySem.W.Frag} {mg : Str → Option Value} {base : Heap} {CLevels : Addr} (T : Top K mg CLevels)
include T
theorem c_lw_take : Cal P w K mg base CX0 1 "_law_take" spTk := by
  refine T.d_lw_take.cal sc_lw_take (fun vs H Q E h => ?_) (fun f cdv A outer s H vs Q E g hr h => ?_)
  · obtain ⟨b, many, rfl, _⟩ := h
    rfl
  · obtain ⟨⟨b, c⟩, many, rfl, ⟨x, y, z, ns, hb, hc, hx, ⟨hy, hy2⟩, hz, hn⟩, ⟨hm, hm2⟩, k⟩ := h
    refine ⟨_, (C8.pss_cut (ps_if (pt_cmpR op_eq (pe_ix (kix (K := K) (r := rIxL) ix_list rfl) (pv 0) pe_int (fun _ _ => rfl)) pe_int (nomark _)) (pss_cons (ps_set (i := 2) sc_lw_take.nd rfl (Or.inl rfl) pe_int)
        (C8.pss_cut (ps_if (pt_cmpR op_lt (pe_ix (kix (K := K) (r := rIxL) ix_list rfl) (pv 0) pe_int (fun _ _ => rfl)) (pe_callB (k_len (K := K) rfl) (by rfl) T.n_len PySem.boot_len (pa_cons (pe_ix (kix (K := K) (r := rIxL) ix_list rfl) (pv 0) pe_int (fun _ _ => rfl)) pa_nil)) (nomark _)) (pss_one (ps_set (i := 2) sc_lw_take.nd rfl (Or.inl rfl) (pe_ix (kix (K := K) (r := rIxL) ix_list rfl) (pe_ix (kix (K := K) (r := rIxL) ix_list rfl) (pv 0) pe_int (fun _ _ => rfl)) (pe_ix (kix (K := K) (r := rIxL) ix_list rfl) (pv 0) pe_int (fun _ _ => rfl)) (fun _ _ => rfl)))) pss_nil)
        (pss_cons (ps_augS (pv 0) pe_int get_list pe_int ip_add set_list)
        (C8.pss_cut (ps_if (pt_cmpR op_ge (pv 2) pe_int (nomark _)) (pss_one (ps_asg (pv 2) (pg_sub (pv 0) pe_int set_list))) pss_nil)
        (pss_one (ps_asg (pe_op op_mod (pe_op op_add (pe_op op_add (pe_op op_mul (pe_ix (kix (K := K) (r := rIxL) ix_list rfl) (pv 0) pe_int (fun _ _ => rfl)) pe_int) (pe_op op_mod (pv 2) pe_int)) (pe_op op_mul pe_int (pe_ix (kix (K := K) (r := rIxL) ix_list rfl) (pv 0) pe_int (fun _ _ => rfl)))) pe_int) (pg_sub (pv 0) pe_int set_list))))))) pss_nil)
    (pss_cons (ps_if (pt_cmpR op_gt (pe_ix (kix (K := K) (r := rIxL) ix_list rfl) (pv 0) pe_int (fun _ _ => rfl)) pe_int (nomark _)) (pss_cons (ps_set (i := 3) sc_lw_take.nd rfl (Or.inl rfl) (pe_op op_mod (pe_ix (kix (K := K) (r := rIxL) ix_list rfl) (pv 0) pe_int (fun _ _ => rfl)) (pv 1)))
        (pss_cons (ps_asg (pe_op op_fdivW (pe_ix (kix (K := K) (r := rIxL) ix_list rfl) (pv 0) pe_int (fun _ _ => rfl)) (pv 1)) (pg_sub (pv 0) pe_int set_list))
        (pss_one (ps_ret (pv 3))))) pss_nil)
    (pss_cons (ps_set (i := 4) sc_lw_take.nd rfl (Or.inl rfl) (pe_op op_mod (pe_op op_mul (pe_op op_add (pe_ix (kix (K := K) (r := rIxL) ix_list rfl) (pv 0) pe_int (fun _ _ => rfl)) pe_int) pe_int) pe_int))
    (pss_cons (ps_set (i := 5) sc_lw_take.nd rfl (Or.inl rfl) (pe_op op_mod (pe_op op_mul (pe_op op_mod (pe_op op_mul (pv 4) (pv 4)) pe_int) pe_int) pe_int))
    (pss_cons (ps_if (pt_cmpR op_gt (pv 1) pe_int (nomark _)) (pss_one (ps_ret (pe_op op_mod (pe_op op_add (pe_op op_mul (pv 5) pe_int) (pv 4)) (pv 1)))) pss_nil)
    (pss_one (ps_ret (pe_op op_mod (pe_op op_fdivW (pv 5) pe_int) (pv 1))))))))), ?_⟩
    have hb : H b = some (.lst [.int x, .int y, .int z, .ref c]) := hb
    have hc : H c = some (.lst (ns.map V.int)) := hc
    have k : ∀ v H', 0 ≤ v → v < many → Bag H' (b, c) → (∀ a, a ≠ b → H' a = H a) → Q (.int v) H' := k
    have ncb : c ≠ b := by
      rintro rfl
      rw [hb] at hc
      cases ns with
      | nil => cases hc
      | cons n1 ns => cases ns with
        | nil => cases hc
        | cons n2 ns => cases ns with
          | nil => cases hc
          | cons n3 ns => cases ns with
            | nil => cases hc
            | cons n4 ns => cases hc
    -- what stands behind the cell's taking
    refine ⟨fun σ H' => ∃ (o2 : Option V) (x y z : Int), σ = [some (.ref b), some (.int many), o2, none, none, none] ∧ 0 ≤ x ∧ (0 ≤ y ∧ y < 2147483647) ∧ 0 ≤ z ∧ H' b = some (.lst [.int x, .int y, .int z, .ref c]) ∧ (∀ a, a ≠ b → H' a = H a), ?_, ?_⟩
    · refine ⟨_, rfl, b, _, 0, _, rfl, rfl, SqL.of hb, rfl, rfl, _, rfl, ite2 (fun e => ?_) (fun e => ?_)⟩
      · -- cell = 0; if bag[2] < len(bag[3]): cell = bag[3][bag[2]]
        have ex : x = 0 := V.int.inj (of_decide_eq_true e)
        subst ex
        -- behind the cell's choice
        refine ⟨fun σ H' => H' = H ∧ ∃ cell : Int, 0 ≤ cell ∧ σ = [some (.ref b), some (.int many), some (.int cell), none, none, none], ?_, ?_⟩
        · refine ⟨_, rfl, b, _, 2, _, rfl, rfl, SqL.of hb, rfl, _, rfl, b, _, 3, _, rfl, rfl, SqL.of hb, rfl, c, _, rfl, .inl (SqL.of hc), _, _, rfl, rfl, _, rfl, ite2 (fun e => ?_) (fun e => ?_)⟩
          · have e0 : z < ns.length := by simpa using of_decide_eq_true e
            obtain ⟨n, rfl⟩ := Int.eq_ofNat_of_zero_le hz
            have hl : n < ns.length := by omega
            refine ⟨_, rfl, b, _, 3, _, rfl, rfl, SqL.of hb, rfl, _, rfl, b, _, 2, _, rfl, rfl, SqL.of hb, rfl, c, _, _, .int ns[n], rfl, rfl, SqL.of hc, atI_nat (by rw [List.getElem?_map, List.getElem?_eq_getElem hl]; rfl), rfl, ns[n], hn _ (List.getElem_mem hl), rfl⟩
          · exact ⟨rfl, 0, Int.le_refl _, rfl⟩
        · rintro σ H' ⟨rfl, cell, hcell, rfl⟩
          refine ⟨_, rfl, b, _, 2, _, rfl, rfl, SqL.of hb, rfl, _, _, rfl, rfl, b, _, 2, 2, rfl, rfl, hb, rfl, ?_⟩
          refine ⟨fun σ H2 => ∃ x : Int, 0 ≤ x ∧ σ = [some (.ref b), some (.int many), some (.int cell), none, none, none] ∧ H2 b = some (.lst [.int x, .int y, .int (z + 1), .ref c]) ∧ (∀ a, a ≠ b → H2 a = H' a), ?_, ?_⟩
          · refine ⟨_, rfl, _, _, rfl, rfl, _, rfl, ite2 (fun e => ?_) (fun e => ?_)⟩
            · refine ⟨_, rfl, _, rfl, b, _, 0, 0, rfl, rfl, upd_same, rfl, cell, hcell, rfl, upd_same, fun a ha => (upd_ne ha).trans (upd_ne ha)⟩
            · exact ⟨0, Int.le_refl _, rfl, upd_same, fun a ha => upd_ne ha⟩
          · rintro σ H2 ⟨x, hx, rfl, hb2, hs2⟩
            refine ⟨_, rfl, b, _, 1, _, rfl, rfl, SqL.of hb2, rfl, _, _, rfl, rfl, .inl (by omega), _, rfl, _, _, rfl, rfl, (by walk_at "pos"), _, _, rfl, rfl, ?_⟩
            refine ⟨_, rfl, b, _, 2, _, rfl, rfl, SqL.of hb2, rfl, _, _, rfl, rfl, .inl (by decide), _, _, rfl, rfl, _, _, rfl, rfl, (by walk_at "pos"), _, rfl, b, _, 1, 1, rfl, rfl, hb2, rfl, ?_⟩
            exact ⟨_, x, _, z + 1, rfl, hx, ⟨Int.emod_nonneg _ (by decide), Int.emod_lt_of_pos _ (by decide)⟩, by omega, upd_same, fun a ha => (upd_ne ha).trans (hs2 a ha)⟩
      · exact ⟨none, x, y, z, rfl, hx, ⟨hy, hy2⟩, hz, hb, fun _ _ => rfl⟩
    · rintro σ H' ⟨o2, x, y, z, rfl, hx, ⟨hy, hy2⟩, hz, hb, hs⟩
      have hc' : H' c = some (.lst (ns.map V.int)) := (hs c ncb).trans hc
      refine ⟨_, rfl, b, _, 0, _, rfl, rfl, SqL.of hb, rfl, _, _, rfl, rfl, _, rfl, ite2 (fun e => ?_) (fun e => ?_)⟩
      · have e0 : 0 < x := of_decide_eq_true e
        refine ⟨_, rfl, b, _, 0, _, rfl, rfl, SqL.of hb, rfl, _, rfl, _, _, rfl, rfl, hm, ?_⟩
        refine ⟨_, rfl, b, _, 0, _, rfl, rfl, SqL.of hb, rfl, _, rfl, _, _, rfl, rfl, divW hm hm2, ?_⟩
        refine ⟨_, rfl, b, _, 0, 0, rfl, rfl, hb, rfl, ?_⟩
        refine ⟨_, rfl, ?_⟩
        refine k _ _ (Int.emod_nonneg _ (by omega)) (Int.emod_lt_of_pos _ hm) ⟨x / many, y, z, ns, upd_same, (upd_ne ncb).trans hc', Int.ediv_nonneg hx (by omega), ⟨hy, hy2⟩, hz, hn⟩ (fun a ha => (upd_ne ha).trans (hs a ha))
      · -- the stirred number
        refine ⟨_, rfl, b, _, 1, _, rfl, rfl, SqL.of hb, rfl, _, _, rfl, rfl, _, _, rfl, rfl, .inl (by omega), _, _, rfl, rfl, (by walk_at "pos"), ?_⟩
        have f1 : 0 ≤ (y + 1) * 39373 % 1000000007 := Int.emod_nonneg _ (by decide)
        have f2 : (y + 1) * 39373 % 1000000007 < 1000000007 := Int.emod_lt_of_pos _ (by decide)
        generalize (y + 1) * 39373 % 1000000007 = p at *
        have g1 : 0 ≤ p * p % 998244353 := Int.emod_nonneg _ (by decide)
        have g2 : p * p % 998244353 < 998244353 := Int.emod_lt_of_pos _ (by decide)
        refine ⟨_, rfl, _, rfl, _, _, rfl, rfl, .inl (by omega), _, _, rfl, rfl, (by walk_at "pos"), _, _, rfl, rfl, .inl (by omega), _, _, rfl, rfl, (by walk_at "pos"), ?_⟩
        have s1 : 0 ≤ p * p % 998244353 * 30011 % 998244353 := Int.emod_nonneg _ (by decide)
        have s2 : p * p % 998244353 * 30011 % 998244353 < 998244353 := Int.emod_lt_of_pos _ (by decide)
        generalize p * p % 998244353 * 30011 % 998244353 = q at *
        have back : ∀ v : Int, 0 ≤ v → v < many → Q (.int v) H' := fun v h1 h2 => k v H' h1 h2 ⟨x, y, z, ns, hb, hc', hx, ⟨hy, hy2⟩, hz, hn⟩ hs
        refine ⟨_, rfl, _, _, rfl, rfl, _, rfl, ite2 (fun e => ?_) (fun e => ?_)⟩
        · refine ⟨_, rfl, _, _, rfl, rfl, .inl (by omega), _, rfl, _, _, rfl, rfl, _, rfl, _, _, rfl, rfl, hm, ?_⟩
          exact back _ (Int.emod_nonneg _ (by omega)) (Int.emod_lt_of_pos _ hm)
        · refine ⟨_, rfl, _, _, rfl, rfl, divW (by decide) (by decide), _, rfl, _, _, rfl, rfl, hm, ?_⟩
          exact back _ (Int.emod_nonneg _ (by omega)) (Int.emod_lt_of_pos _ hm)
end
end K48
end
section
set_option Elab.async false
set_option linter.all false
set_option maxRecDepth 100000
set_option maxHeartbeats 4000000
namespace K48
local macro_rules | `(tactic| walk_at "pos") => `(tactic| (show (0 : Int) < _; first | decide | omega))
open PySem PySem.Spec PyProof.Rows L2 Lf 
open Evl
local macro_rules | `(tactic| walk_at "lk") => `(tactic| (simp (disch := decide +kernel) only [lk_hit, lk_miss, lk_nil]))
local macro_rules | `(tactic| walk_at "pf") => `(tactic| (simp (disch := decide +kernel) only [pf_hit, pf_miss, pf_nil]))
section
variable {P : Program} {w : World} {K : PySem.W.Frag} {mg : Str → Option Value} {base : Heap} {CLevels : Addr} (T : Top K mg CLevels)
include T
theorem c_lw_bag : Cal P w K mg base CX0 1 "_law_bag" (spBag K) := by
  refine T.d_lw_bag.cal sc_lw_bag (fun vs H Q E h => ?_) (fun f cdv A outer s H vs Q E g hr h => ?_)
  · obtain ⟨a, ns, rfl, _⟩ := h
    rfl
  · obtain ⟨a, ns, rfl, hx, hl, k⟩ := h
    refine ⟨_, (pss_one (ps_ret (pe_lst (pa_cons pe_int (pa_cons pe_int (pa_cons pe_int (pa_cons (pe_lc (own := [("_law_cell", 1)]) (g := (gName 1)) (tt := tYes) (by rfl) sc_lw_bag.nd (k_list (K := K) rfl (pe_slice (ksl (K := K) (r := rSlL) sl_list rfl) (pv 0) po_none (po_some pe_int))) (blkOk_by (own := [("_law_cell", 1)]) (N := ns_lw_bag) (sc := defScope s_lw_bag) (by decide +kernel)) (fun _ _ _ _ _ => (pg_name (i := 1) sc_lw_bag.nd rfl (Or.inl rfl))) (fun _ _ _ _ _ => pts_nil) (fun _ _ _ _ _ => (pe_callB call_abs (by rfl) T.n_abs (by decide +kernel) (pa_cons (pv 1) pa_nil)))) pa_nil))))))), ?_⟩
    have cut : ∃ ms : List Int, cutV (ns.map V.int) none (some 63) = ms.map V.int ∧ ms.length ≤ 63 := by
      refine ⟨(ns.drop (HT.sIx (ns.map V.int).length 0 none)).take (HT.sIx (ns.map V.int).length (ns.map V.int).length (some 63) - HT.sIx (ns.map V.int).length 0 none), ?_, ?_⟩
      · unfold cutV
        rw [List.map_take, List.map_drop]
      · rw [List.length_take, List.length_drop]
        omega
    obtain ⟨ms, e1, hms⟩ := cut
    have sl : EvL (tSl (rSlL K) (tVar 0) tNoPart (tPart (tC (.int 63)))) [some (V.ref a), none] H (ms.map V.int) := by
      rw [← e1]
      exact el_sl (ev_var rfl) eo_none (eo_some ev_c) hx
    have lc := el_lcNL (K := K) (t := tYes) (te := tCB (fun xs H Q => ∃ i, xs = [V.int i] ∧ Q (.int (if i < 0 then -i else i)) H) (tCons (tVar 1) tNil)) (j := 1) (vs := [1]) (fun _ => true) (fun i => V.int (if ms.getD i 0 < 0 then -ms.getD i 0 else ms.getD i 0)) sl (by rw [List.length_map]; omega) (fun _ => rfl) (fun _ _ _ _ _ => yes_ok) (fun i x H1 e1 hi _ => by
      have hil : i < ms.length := by
        have := (List.getElem?_eq_some_iff.mp hi).1
        rw [List.length_map] at this
        exact this
      rw [getD_int hil] at hi
      cases hi
      exact ev_cb (ea_cons (ev_var rfl) ea_nil) (fun H2 e2 Q q => ⟨_, rfl, q H2 (Ex.refl _)⟩))
    rw [given_all] at lc
    refine s_retLst4 lc fun c H1 c0 e2 hc p hp => ?_
    refine k (p, c) _ (e2.trans (Ex.new hp)) (fresh_back e2 hp) ⟨0, 1234567891, 0, (List.range ms.length).map fun i => if ms.getD i 0 < 0 then -ms.getD i 0 else ms.getD i 0, upd_same, ?_, by decide, by decide, by decide, ?_⟩
    · rw [upd_ne (ne_of_none hc hp), hc, List.length_map, List.map_map]
      rfl
    · intro n hn
      obtain ⟨i, _, rfl⟩ := List.mem_map.mp hn
      split <;> omega
end
end K48
end
section
set_option Elab.async false
set_option linter.all false
set_option maxRecDepth 100000
set_option maxHeartbeats 4000000
namespace K48
local macro_rules | `(tactic| walk_at "pos") => `(tactic| (show (0 : Int) < _; first | decide | omega))
open PySem PySem.Spec PyProof.Rows L2 Lf 
open Evl
local macro_rules | `(tactic| walk_at "lk") => `(tactic| (simp (disch := decide +kernel) only [lk_hit, lk_miss, lk_nil]))
local macro_rules | `(tactic| walk_at "pf") => `(tactic| (simp (disch := decide +kernel) only [pf_hit, pf_miss, pf_nil]))
section
variable {P : Program} {w : World} {K : PySem.W.Frag} {mg : Str → Option Value} {base : Heap} {CLevels : Addr} (T : Top K mg CLevels)
include T
theorem c_number_of : Cal P w K mg base CX0 1 "number_of" (spNumber K) := by
  refine T.d_number_of.cal sc_number_of (fun vs H Q E h => ?_) (fun f cdv A outer s H vs Q E g hr h => ?_)
  · obtain ⟨v, o, rfl, _⟩ := h
    rfl
  · obtain ⟨v, o, rfl, ⟨t, b1, b2, ty, k1, k2, hc⟩, k⟩ := h
    refine ⟨_, (pss_cons (ps_if (PW.pt (pw_or (pt_not (pt_val (pe_callB (kcr (K := K) (r := rIsi) call_isi rfl) (by rfl) T.n_isinstance (by decide +kernel) (pa_cons (pv 0) (pa_cons (pe_bltn (v := .ty "int") (by rfl) T.n_int (by decide +kernel) rfl) pa_nil))))) (pw_or1 (pt_val (pe_callB (kcr (K := K) (r := rIsi) call_isi rfl) (by rfl) T.n_isinstance (by decide +kernel) (pa_cons (pv 0) (pa_cons (pe_bltn (v := .ty "bool") (by rfl) T.n_bool (by decide +kernel) rfl) pa_nil))))))) (pss_one (ps_ret pe_non)) pss_nil)
    (pss_cons (ps_set (i := 1) sc_number_of.nd rfl (Or.inl rfl) (pe_callTy cr_range1 (by rfl) T.n_range (by decide +kernel) (pa_cons (pv 0) pa_nil)))
    (pss_cons (ps_if (pt_cmpR op_in_rng pe_int (pv 1) rfl) (pss_one (ps_ret (pe_op op_add (pe_ix ix_rng (pv 1) (pe_un un_neg pe_int) (fun _ _ => rfl)) pe_int))) pss_nil)
    (pss_cons (ps_set (i := 2) sc_number_of.nd rfl (Or.inl rfl) (pe_callTy cr_range2 (by rfl) T.n_range (by decide +kernel) (pa_cons (pv 0) (pa_cons pe_int pa_nil))))
    (pss_one (ps_ret (pe_ix ix_rng (pv 2) pe_int (fun _ _ => rfl)))))))), ?_⟩
    refine ⟨_, rfl, v, .ty "int", t, .type "int", b1, rfl, .ty _, ty, k1, b1, rfl, ?_⟩
    rcases hc with ⟨rfl, rfl, i, rfl, rfl⟩ | ⟨rfl, rfl⟩ | ⟨rfl, rfl, rfl⟩
    · refine iteF ⟨_, rfl, .int i, .ty "bool", t, .type "bool", false, rfl, .ty _, ty, k2, false, rfl, iteF ?_⟩
      refine ⟨_, rfl, i, rfl, fun p hp => ?_⟩
      refine ⟨_, rfl, 0, p, 0, i, rfl, rfl, upd_same, _, rfl, ite2 (fun e => ?_) (fun e => ?_)⟩
      · have e0 := of_decide_eq_true e
        refine ⟨_, rfl, 1, rfl, p, 0, i, -1, -1 + (i - 0), rfl, rfl, upd_same, rfl, ⟨by omega, by omega⟩, _, _, rfl, rfl, ?_⟩
        have e1 : 0 + (-1 + (i - 0)) + 1 = i := by omega
        show Q (V.int (0 + (-1 + (i - 0)) + 1)) _
        rw [e1]
        exact k _ (Ex.new hp)
      · have e0 : ¬ (0 < i) := fun z => e (decide_eq_true ⟨Int.le_refl _, z⟩)
        refine ⟨_, rfl, i, 1, rfl, fun q hq => ?_⟩
        refine ⟨_, rfl, q, i, 1, 0, 0, rfl, rfl, upd_same, rfl, ⟨by omega, by omega⟩, ?_⟩
        rw [Int.add_zero]
        exact k _ ((Ex.new hp).trans (Ex.new hq))
    · exact iteT (iteT (k _ (Ex.refl _)))
    · exact iteF ⟨_, rfl, v, .ty "bool", t, .type "bool", true, rfl, .ty _, ty, k2, true, rfl, iteT (k _ (Ex.refl _))⟩
end
end K48
end
section
set_option Elab.async false
set_option linter.all false
set_option maxRecDepth 100000
set_option maxHeartbeats 4000000
namespace K48
local macro_rules | `(tactic| walk_at "pos") => `(tactic| (show (0 : Int) < _; first | decide | omega))
open PySem PySem.Spec PyProof.Rows L2 Lf 
open Evl
local macro_rules | `(tactic| walk_at "lk") => `(tactic| (simp (disch := decide +kernel) only [lk_hit, lk_miss, lk_nil]))
local macro_rules | `(tactic| walk_at "pf") => `(tactic| (simp (disch := decide +kernel) only [pf_hit, pf_miss, pf_nil]))
/-! the levels: what a place knows, in plain lists -/
abbrev IL := List (Int × Int)
structure Lv where
  place : Int
  many : Int
  level : Int
  head : Option Int
  sp : IL
  kp : IL
def keys (l : IL) : List Int := l.map (·.1)
def look (l : IL) (k : Int) : Option Int := (l.find? fun p => decide (p.1 = k)).map (·.2)
def put (l : IL) (k v : Int) : IL := if (l.any fun p => decide (p.1 = k)) = true then l.map (fun p => if p.1 = k then (p.1, v) else p) else l ++ [(k, v)]
def encK (l : IL) : List (Key × V) := l.map fun p => (Sum.inl p.1, V.int p.2)
theorem inl_dec (a b : Int) : (decide ((Sum.inl a : Key) = Sum.inl b)) = decide (a = b) := decide_eq_decide.mpr ⟨Sum.inl.inj, fun h => h ▸ rfl⟩
theorem valV_enc (l : IL) (k : Int) : valV (encK l) (.inl k) = (look l k).map V.int := by
  unfold valV look encK
  rw [List.find?_map, Option.map_map, Option.map_map]
  have e : ((fun kv : Key × V => decide (kv.1 = Sum.inl k)) ∘ fun p : Int × Int => ((Sum.inl p.1 : Key), V.int p.2)) = fun p => decide (p.1 = k) := by
    funext p
    exact inl_dec p.1 k
  rw [e]
  rfl
theorem putK_enc (l : IL) (k v : Int) : putK (encK l) (.inl k) (.int v) = encK (put l k v) := by
  unfold putK put
  have e : ((encK l).any fun kv => decide (kv.1 = Sum.inl k)) = l.any fun p => decide (p.1 = k) := by
    unfold encK
    rw [List.any_map]
    congr 1
    funext p
    exact inl_dec p.1 k
  rw [e]
  by_cases h : (l.any fun p => decide (p.1 = k)) = true
  · rw [if_pos h, if_pos h]
    unfold encK
    rw [List.map_map, List.map_map]
    refine List.map_congr_left fun p _ => ?_
    show (if (Sum.inl p.1 : Key) = Sum.inl k then _ else _) = _
    by_cases q : p.1 = k
    · rw [if_pos (congrArg Sum.inl q)]
      show _ = ((Sum.inl (if p.1 = k then (p.1, v) else p).1 : Key), V.int (if p.1 = k then (p.1, v) else p).2)
      rw [if_pos q]
    · rw [if_neg (fun z => q (Sum.inl.inj z))]
      show _ = ((Sum.inl (if p.1 = k then (p.1, v) else p).1 : Key), V.int (if p.1 = k then (p.1, v) else p).2)
      rw [if_neg q]
  · rw [if_neg h, if_neg h]
    unfold encK
    rw [List.map_append]
    rfl
theorem encK_keys (l : IL) : (encK l).map (·.1) = (keys l).map Sum.inl := by
  unfold encK keys
  rw [List.map_map, List.map_map]
  rfl
theorem encK_len (l : IL) : (encK l).length = l.length := List.length_map _
theorem any_keys (l : IL) (k : Int) : (l.any fun p => decide (p.1 = k)) = true ↔ k ∈ keys l := by
  rw [List.any_eq_true]
  constructor
  · rintro ⟨p, h1, h2⟩
    exact List.mem_map.mpr ⟨p, h1, of_decide_eq_true h2⟩
  · intro h
    obtain ⟨p, h1, h2⟩ := List.mem_map.mp h
    exact ⟨p, h1, decide_eq_true h2⟩
theorem put_keys (l : IL) (k v : Int) : keys (put l k v) = if k ∈ keys l then keys l else keys l ++ [k] := by
  unfold put
  by_cases h : k ∈ keys l
  · rw [if_pos ((any_keys l k).mpr h), if_pos h]
    unfold keys
    rw [List.map_map]
    refine List.map_congr_left fun p _ => ?_
    show (if p.1 = k then (p.1, v) else p).1 = p.1
    split <;> rfl
  · rw [if_neg (fun z => h ((any_keys l k).mp z)), if_neg h]
    unfold keys
    rw [List.map_append]
    rfl
theorem put_keys_mem {l : IL} {k v x : Int} : x ∈ keys (put l k v) ↔ x ∈ keys l ∨ x = k := by
  rw [put_keys]
  by_cases h : k ∈ keys l
  · rw [if_pos h]
    constructor
    · exact .inl
    · rintro (q | rfl)
      · exact q
      · exact h
  · rw [if_neg h, List.mem_append, List.mem_singleton]
theorem put_nodup {l : IL} {k v : Int} (h : (keys l).Nodup) : (keys (put l k v)).Nodup := by
  rw [put_keys]
  by_cases q : k ∈ keys l
  · rw [if_pos q]
    exact h
  · rw [if_neg q, List.nodup_append]
    refine ⟨h, by simp, fun a ha b hb => ?_⟩
    rw [List.mem_singleton.mp hb]
    rintro rfl
    exact q ha
theorem look_some {l : IL} {k : Int} (h : k ∈ keys l) : ∃ v, look l k = some v := by
  unfold look
  cases e : l.find? fun p => decide (p.1 = k) with
  | some p => exact ⟨_, rfl⟩
  | none =>
    obtain ⟨p, h1, h2⟩ := List.mem_map.mp h
    have := List.find?_eq_none.mp e p h1
    exact absurd (decide_eq_true h2) this
theorem look_none {l : IL} {k : Int} (h : k ∉ keys l) : look l k = none := by
  unfold look
  rw [List.find?_eq_none.mpr]
  · rfl
  · intro p hp z
    exact h (List.mem_map.mpr ⟨p, hp, of_decide_eq_true z⟩)
theorem look_isSome (l : IL) (k : Int) : (look l k).isSome = decide (k ∈ keys l) := by
  by_cases h : k ∈ keys l
  · obtain ⟨v, e⟩ := look_some h
    rw [e, decide_eq_true h]
    rfl
  · rw [look_none h, decide_eq_false h]
    rfl
/-- ten keys at most -/
theorem few_of : ∀ (n : Nat) (l : List Int), l.Nodup → (∀ x ∈ l, 0 ≤ x ∧ x < n) → l.length ≤ n
  | 0, l, _, h => by
    cases l with
    | nil => exact Nat.le_refl _
    | cons x l =>
      have := h x List.mem_cons_self
      omega
  | n + 1, l, hn, h => by
    have h1 := few_of n (l.erase (n : Int)) (hn.erase _) fun x hx => by
      have h2 := (hn.mem_erase_iff).mp hx
      have h3 := h x h2.2
      have h4 : x ≠ (n : Int) := h2.1
      omega
    by_cases q : (n : Int) ∈ l
    · rw [List.length_erase_of_mem q] at h1
      omega
    · rw [List.erase_of_not_mem q] at h1
      omega
structure Lv.Ok (s : Lv) : Prop where
  kn : (keys s.kp).Nodup
  sn : (keys s.sp).Nodup
  sub : ∀ x ∈ keys s.kp, x ∈ keys s.sp
  ten : ∀ x ∈ keys s.sp, 0 ≤ x ∧ x < 10
  pl : 0 ≤ s.place ∧ s.place < 10
  mn : 0 ≤ s.many ∧ s.many ≤ 1000
  lv : 0 ≤ s.level ∧ s.level ≤ 1000
  hd : ∀ h, s.head = some h → 0 ≤ h ∧ h < 10
  kl : ∀ p ∈ s.kp, 0 ≤ p.2 ∧ p.2 < 1000
theorem Lv.Ok.sfew {s : Lv} (h : s.Ok) : s.sp.length ≤ 10 := by
  have := few_of 10 _ h.sn h.ten
  rw [keys, List.length_map] at this
  exact this
theorem Lv.Ok.kfew {s : Lv} (h : s.Ok) : s.kp.length ≤ 10 := by
  have := few_of 10 _ h.kn fun x hx => h.ten x (h.sub x hx)
  rw [keys, List.length_map] at this
  exact this
def Lv.new (place many : Int) : Lv := ⟨place, many, if place = 0 then 0 else many, none, [], []⟩
def Lv.old (s : Lv) (n t : Int) : Bool := match look s.sp n with
  | some u => decide (t ≤ u)
  | none => false
def Lv.hears (s : Lv) (n l t : Int) : Lv := if s.old n t = true then s else { s with sp := put s.sp n t, kp := put s.kp n l }
def Lv.fresh (s : Lv) (t q : Int) (p : Int × Int) : Bool := decide (t - q ≤ (look s.sp p.1).getD 0)
def Lv.forget (s : Lv) (t q : Int) : Lv := { s with kp := s.kp.filter (s.fresh t q) }
/-- the lesser of two (neighbour, level): by level, then by neighbour -/
def lessP (a y : Int × Int) : Bool := decide (y.2 < a.2 ∨ (y.2 = a.2 ∧ y.1 < a.1))
def best (p : Int × Int) (ps : IL) : Int × Int := ps.foldl (fun a y => if lessP a y then y else a) p
def Lv.find (s : Lv) : Lv := match s.kp with
  | [] => { s with level := s.many, head := none }
  | p :: ps => if (best p ps).2 + 1 < s.many then { s with level := (best p ps).2 + 1, head := some (best p ps).1 } else { s with level := s.many, head := none }
def Lv.slot (s : Lv) (t q : Int) : Lv := if s.place = 0 then s.forget t q else (s.forget t q).find
def srt (l : List Int) : List Int := l.mergeSort fun a b => decide (a ≤ b)
def Lv.told (s : Lv) : List Int := (srt (keys s.sp)).filter fun x => !decide (x ∈ keys s.kp)
theorem srt_perm (l : List Int) : (srt l).Perm l := List.mergeSort_perm _ _
theorem srt_pair (l : List Int) : (srt l).Pairwise (· ≤ ·) := by
  have h := List.pairwise_mergeSort (le := fun a b : Int => decide (a ≤ b)) (by intro a b c h1 h2; have := of_decide_eq_true h1; have := of_decide_eq_true h2; exact decide_eq_true (by omega)) (by intro a b; by_cases q : a ≤ b; simp [q]; simp [q]; omega) l
  exact h.imp fun h => of_decide_eq_true h
theorem srt_eq {l ys : List Int} (hp : ys.Perm l) (hs : ys.Pairwise (· ≤ ·)) : ys = srt l := (hp.trans (srt_perm l).symm).eq_of_pairwise (fun a b _ _ h1 h2 => Int.le_antisymm h1 h2) hs (srt_pair l)
theorem best_mem (p : Int × Int) (ps : IL) : best p ps ∈ p :: ps := by
  unfold best
  induction ps generalizing p with
  | nil => exact List.mem_cons_self
  | cons y ps ih =>
    rw [List.foldl_cons]
    have := ih (if lessP p y = true then y else p)
    rcases List.mem_cons.mp this with h | h
    · rw [h]
      split
      · exact List.mem_cons_of_mem _ List.mem_cons_self
      · exact List.mem_cons_self
    · exact List.mem_cons_of_mem _ (List.mem_cons_of_mem _ h)
theorem Lv.Ok.hears {s : Lv} (h : s.Ok) {n l t : Int} (hn : 0 ≤ n ∧ n < 10) (hl : 0 ≤ l ∧ l < 1000) : (s.hears n l t).Ok := by
  unfold Lv.hears
  split
  · exact h
  · refine ⟨put_nodup h.kn, put_nodup h.sn, fun x hx => ?_, fun x hx => ?_, h.pl, h.mn, h.lv, h.hd, fun p hp => ?_⟩
    · rcases put_keys_mem.mp hx with q | q
      · exact put_keys_mem.mpr (.inl (h.sub x q))
      · exact put_keys_mem.mpr (.inr q)
    · rcases put_keys_mem.mp hx with q | rfl
      · exact h.ten x q
      · exact hn
    · have hp : p ∈ put s.kp n l := hp
      unfold put at hp
      split at hp
      · obtain ⟨q, hq, rfl⟩ := List.mem_map.mp hp
        split
        · exact hl
        · exact h.kl q hq
      · rcases List.mem_append.mp hp with q | q
        · exact h.kl p q
        · rw [List.mem_singleton.mp q]
          exact hl
theorem keys_filter {l : IL} {f : Int × Int → Bool} : (keys (l.filter f)).Sublist (keys l) := List.filter_sublist.map _
theorem Lv.Ok.forget {s : Lv} (h : s.Ok) (t q : Int) : (s.forget t q).Ok := ⟨h.kn.sublist keys_filter, h.sn, fun x hx => h.sub x (keys_filter.subset hx), h.ten, h.pl, h.mn, h.lv, h.hd, fun p hp => h.kl p (List.mem_filter.mp hp).1⟩
theorem Lv.Ok.find {s : Lv} (h : s.Ok) : s.find.Ok := by
  unfold Lv.find
  split
  · exact ⟨h.kn, h.sn, h.sub, h.ten, h.pl, h.mn, h.mn, fun _ z => (nomatch z), h.kl⟩
  · rename_i p ps e
    have hb := best_mem p ps
    rw [← e] at hb
    have k := h.kl _ hb
    split
    · refine ⟨h.kn, h.sn, h.sub, h.ten, h.pl, h.mn, ⟨by show 0 ≤ _ + 1; omega, by show _ + 1 ≤ 1000; omega⟩, fun x z => ?_, h.kl⟩
      have z : some (best p ps).1 = some x := z
      cases z
      exact h.ten _ (h.sub _ (List.mem_map.mpr ⟨_, hb, rfl⟩))
    · exact ⟨h.kn, h.sn, h.sub, h.ten, h.pl, h.mn, h.mn, fun _ z => (nomatch z), h.kl⟩
theorem Lv.Ok.slot {s : Lv} (h : s.Ok) (t q : Int) : (s.slot t q).Ok := by
  unfold Lv.slot
  split
  · exact h.forget t q
  · exact (h.forget t q).find
theorem Lv.ok_new {place many : Int} (h1 : 0 ≤ place ∧ place < 10) (h2 : 0 ≤ many ∧ many ≤ 1000) : (Lv.new place many).Ok := ⟨List.nodup_nil, List.nodup_nil, fun x hx => (by cases hx), fun x hx => (by cases hx), h1, h2, (by unfold Lv.new; dsimp only; split <;> omega), fun _ z => (nomatch z), fun p hp => (by cases hp)⟩
/-- the least, as data -/
def dP2 (p : Int × Int) : PyData := .tuple [.int p.2, .int p.1]
theorem dataLt_P2 (a y : Int × Int) : PySem.W.dataLt (dP2 y) (dP2 a) = lessP a y := by
  unfold dP2 lessP
  rw [PySem.W.dataLt_ii]
theorem minD_best (p : Int × Int) (ps : IL) : PySem.W.minD (dP2 p) (ps.map dP2) = dP2 (best p ps) := by
  unfold PySem.W.minD best
  induction ps generalizing p with
  | nil => rfl
  | cons y ps ih =>
    rw [List.map_cons, List.foldl_cons, List.foldl_cons, dataLt_P2]
    have e : (if lessP p y = true then dP2 y else dP2 p) = dP2 (if lessP p y = true then y else p) := by split <;> rfl
    rw [e]
    exact ih _
theorem alike_P2 (l : IL) : PySem.W.AlikeAll (l.map dP2) := by
  constructor
  · intro x hx y hy
    obtain ⟨p, _, rfl⟩ := List.mem_map.mp hx
    obtain ⟨q, _, rfl⟩ := List.mem_map.mp hy
    simp [dP2, PySem.W.alike, PySem.W.alikeAll]
  · intro x hx
    obtain ⟨p, _, rfl⟩ := List.mem_map.mp hx
    exact fun z => nomatch z
theorem depth_P2 : ∀ l : IL, PyData.depthAll (l.map dP2) ≤ 1
  | [] => by simp [PyData.depthAll]
  | p :: l => by
    have := depth_P2 l
    rw [List.map_cons, PyData.depthAll]
    have e : PyData.depth (dP2 p) = 1 := by simp [dP2, PyData.depth, PyData.depthAll]
    omega
end K48
end
section
set_option Elab.async false
set_option linter.all false
set_option maxRecDepth 100000
set_option maxHeartbeats 4000000
namespace K48
local macro_rules | `(tactic| walk_at "pos") => `(tactic| (show (0 : Int) < _; first | decide | omega))
open PySem PySem.Spec PyProof.Rows L2 Lf 
open Evl
local macro_rules | `(tactic| walk_at "lk") => `(tactic| (simp (disch := decide +kernel) only [lk_hit, lk_miss, lk_nil]))
local macro_rules | `(tactic| walk_at "pf") => `(tactic| (simp (disch := decide +kernel) only [pf_hit, pf_miss, pf_nil]))
def lvF (s : Lv) (d1 d2 : Addr) : List (Str × V) := [("_place", .int s.place), ("_many", .int s.many), ("_level", .int s.level), ("_head", optV s.head), ("_spoken", .ref d1), ("_kept", .ref d2)]
structure LvAt (C : Addr) (H : Hp) (p d1 d2 : Addr) (s : Lv) : Prop where
  ok : s.Ok
  ins : ∃ dx, H p = some (.ins C dx (lvF s d1 d2))
  h1 : H d1 = some (.dK (encK s.sp))
  h2 : H d2 = some (.dK (encK s.kp))
  ne : d1 ≠ d2
theorem LvAt.ex {C : Addr} {H H' : Hp} {p d1 d2 : Addr} {s : Lv} (h : LvAt C H p d1 d2 s) (e : Ex H H') : LvAt C H' p d1 d2 s := let ⟨dx, hi⟩ := h.ins; ⟨h.ok, ⟨dx, e _ _ hi⟩, e _ _ h.h1, e _ _ h.h2, h.ne⟩
/-- all but these stays -/
def Fr (W : List Addr) (H H' : Hp) : Prop := ∀ a o, a ∉ W → H a = some o → H' a = some o
theorem Fr.refl {W : List Addr} {H : Hp} : Fr W H H := fun _ _ _ h => h
theorem Fr.ex {W : List Addr} {H H' : Hp} (e : Ex H H') : Fr W H H' := fun a o _ h => e a o h
theorem Fr.trans {W : List Addr} {H H1 H2 : Hp} (a : Fr W H H1) (b : Fr W H1 H2) : Fr W H H2 := fun x o n h => b x o n (a x o n h)
theorem Fr.upd {W : List Addr} {H H' : Hp} {p : Addr} {o : HO} (a : Fr W H H') (h : p ∈ W) : Fr W H (L2.upd H' p o) := fun x u n hx => by
  have ne : x ≠ p := fun e => n (by rw [e]; exact h)
  rw [upd_ne ne]
  exact a x u n hx
theorem Fr.mono {W W' : List Addr} {H H' : Hp} (a : Fr W H H') (h : ∀ x ∈ W, x ∈ W') : Fr W' H H' := fun x o n hx => a x o (fun m => n (h x m)) hx
theorem LvAt.fr {C : Addr} {W : List Addr} {H H' : Hp} {p d1 d2 : Addr} {s : Lv} (h : LvAt C H p d1 d2 s) (e : Fr W H H') (n0 : p ∉ W) (n1 : d1 ∉ W) (n2 : d2 ∉ W) : LvAt C H' p d1 d2 s := let ⟨dx, hi⟩ := h.ins; ⟨h.ok, ⟨dx, e _ _ n0 hi⟩, e _ _ n1 h.h1, e _ _ n2 h.h2, h.ne⟩
def spInit (C : Addr) : Sp := fun vs H Q _ => ∃ (x dx : Addr) (place many : Int), vs = [.ref x, .int place, .int many] ∧ H x = some (.ins C dx []) ∧ (0 ≤ place ∧ place < 10) ∧ (0 ≤ many ∧ many ≤ 1000) ∧ ∀ H' d1 d2, Fr [x] H H' → H d1 = none → H d2 = none → LvAt C H' x d1 d2 (Lv.new place many) → Q .non H'
def spLevel (C : Addr) : Sp := fun vs H Q _ => ∃ p d1 d2 s, vs = [.ref p] ∧ LvAt C H p d1 d2 s ∧ RetV (.int s.level) H Q
def spHead (C : Addr) : Sp := fun vs H Q _ => ∃ p d1 d2 s, vs = [.ref p] ∧ LvAt C H p d1 d2 s ∧ RetV (optV s.head) H Q
def spHears (C : Addr) : Sp := fun vs H Q _ => ∃ (p d1 d2 : Addr) (s : Lv) (n l t : Int), vs = [.ref p, .int n, .int l, .int t] ∧ LvAt C H p d1 d2 s ∧ (0 ≤ n ∧ n < 10) ∧ (0 ≤ l ∧ l < 1000) ∧ ∀ H', Fr [d1, d2] H H' → LvAt C H' p d1 d2 (s.hears n l t) → Q .non H'
def spFind (C : Addr) : Sp := fun vs H Q _ => ∃ (p d1 d2 : Addr) (s : Lv), vs = [.ref p] ∧ LvAt C H p d1 d2 s ∧ ∀ H', Fr [p] H H' → LvAt C H' p d1 d2 s.find → Q .non H'
def spSlot (C : Addr) : Sp := fun vs H Q _ => ∃ (p d1 d2 : Addr) (s : Lv) (t q : Int), vs = [.ref p, .int t, .int q] ∧ LvAt C H p d1 d2 s ∧ ∀ H' d3 l, Fr [p] H H' → H d3 = none → H l = none → l ≠ d3 → LvAt C H' p d1 d3 (s.slot t q) → H' l = some (.lst ((s.slot t q).told.map V.int)) → Q (.ref l) H'
theorem lvF_no {s : Lv} {d1 d2 : Addr} {m : Str} (h : ([("_place" : Str), "_many", "_level", "_head", "_spoken", "_kept"].any fun x => m == x) = false) : (lvF s d1 d2).lookup m = none := by
  simp only [List.any_cons, List.any_nil, Bool.or_eq_false_iff] at h
  unfold lvF
  rw [lk_miss h.1, lk_miss h.2.1, lk_miss h.2.2.1, lk_miss h.2.2.2.1, lk_miss h.2.2.2.2.1, lk_miss h.2.2.2.2.2.1]
  rfl
theorem lvF_place {s : Lv} {d1 d2 : Addr} : (lvF s d1 d2).lookup ("_place" : Str) = some (.int s.place) := by unfold lvF; walk_at "lk"
theorem lvF_many {s : Lv} {d1 d2 : Addr} : (lvF s d1 d2).lookup ("_many" : Str) = some (.int s.many) := by unfold lvF; walk_at "lk"
theorem lvF_level {s : Lv} {d1 d2 : Addr} : (lvF s d1 d2).lookup ("_level" : Str) = some (.int s.level) := by unfold lvF; walk_at "lk"
theorem lvF_head {s : Lv} {d1 d2 : Addr} : (lvF s d1 d2).lookup ("_head" : Str) = some (optV s.head) := by unfold lvF; walk_at "lk"
theorem lvF_spoken {s : Lv} {d1 d2 : Addr} : (lvF s d1 d2).lookup ("_spoken" : Str) = some (.ref d1) := by unfold lvF; walk_at "lk"
theorem lvF_kept {s : Lv} {d1 d2 : Addr} : (lvF s d1 d2).lookup ("_kept" : Str) = some (.ref d2) := by unfold lvF; walk_at "lk"
theorem lvF_put {s : Lv} {d1 d2 : Addr} (l : Int) (h : Option Int) : putF "_head" (optV h) (putF "_level" (.int l) (lvF s d1 d2)) = lvF { s with level := l, head := h } d1 d2 := by unfold lvF; walk_at "pf"
theorem lvF_keep {s : Lv} {d1 d2 d3 : Addr} {kp : IL} : putF "_kept" (.ref d3) (lvF s d1 d2) = lvF { s with kp := kp } d1 d3 := by unfold lvF; walk_at "pf"
theorem lvF_len {s : Lv} {d1 d2 : Addr} {l : Int} : (putF "_level" (.int l) (lvF s d1 d2)).length < 1000 := by
  have e : (putF "_level" (.int l) (lvF s d1 d2)).length = 6 := by
    unfold lvF
    walk_at "pf"
    rfl
  omega
section
variable {P : Program} {w : World} {K : PySem.W.Frag} {mg : Str → Option Value} {base : Heap} {CLevels : Addr} (T : Top K mg CLevels)
include T
theorem c_Levels : Mak P w K mg base CX0 3 "Levels" CLevels (spInit CLevels) := by
  refine T.d_Levels__init.mak T.hm_Levels T.mk_Levels sc_Levels__init (fun vs H Q E h => ?_) (fun f cdv A outer s H vs Q E g hr h => ?_)
  · obtain ⟨x, dx, place, many, rfl, _⟩ := h
    rfl
  · obtain ⟨x, dx, place, many, rfl, hx, hpl, hmn, k⟩ := h
    refine ⟨_, (pss_cons (ps_fld (pv 0) (ec (c_number_of T) g hr (by decide) pass0 (by rfl) (pa_cons (pv 1) pa_nil)) rfl)
    (pss_cons (ps_fld (pv 0) (ec (c_number_of T) g hr (by decide) pass0 (by rfl) (pa_cons (pv 2) pa_nil)) rfl)
    (pss_cons (ps_fld (pv 0) (pe_ifExp (pt_cmpR op_eq (k_fld (K := K) rfl (pv 0) rfl) pe_int (nomark _)) pe_int (k_fld (K := K) rfl (pv 0) rfl)) rfl)
    (pss_cons (ps_fld (pv 0) pe_non rfl)
    (pss_cons (ps_fld (pv 0) pe_dnewK rfl)
    (pss_one (ps_fld (pv 0) pe_dnewK rfl))))))), ?_⟩
    refine q_fld (ev_cl (ea_cons (ev_var rfl) ea_nil) (sv_number K H place)) (fun _ _ => ev_var rfl) hx T.cl_Levels T.a_Levels_place (by decide) fun H1 e1 => ?_
    have f1 : Fr [x] H (upd H1 x (.ins CLevels dx (putF "_place" (.int place) []))) := (Fr.ex e1).upd (by simp)
    have g1 : (upd H1 x (.ins CLevels dx (putF "_place" (.int place) []))) x = _ := upd_same
    generalize upd H1 x (.ins CLevels dx (putF "_place" (.int place) [])) = G1 at f1 g1 ⊢
    refine q_fld (ev_cl (ea_cons (ev_var rfl) ea_nil) (sv_number K _ many)) (fun _ _ => ev_var rfl) g1 T.cl_Levels T.a_Levels_many (by show 1 < 1000; decide) fun H2 e2 => ?_
    have f2 : Fr [x] H (upd H2 x (.ins CLevels dx (putF "_many" (.int many) (putF "_place" (.int place) [])))) := (f1.trans (Fr.ex e2)).upd (by simp)
    have g2 : (upd H2 x (.ins CLevels dx (putF "_many" (.int many) (putF "_place" (.int place) [])))) x = some (.ins CLevels dx [("_place", .int place), ("_many", .int many)]) := by rw [upd_same]; walk_at "pf"
    generalize upd H2 x (.ins CLevels dx (putF "_many" (.int many) (putF "_place" (.int place) []))) = G2 at f2 g2 ⊢
    refine q_fld (v := .int (if place = 0 then 0 else many)) (ev_if (b := decide (V.int place = V.int 0)) (et_test (ev_op (ev_fld (ev_var rfl) g2 T.cl_Levels T.a_Levels_place (by walk_at "lk")) ev_c (rv_eq rfl))) (fun hb => ?_) fun hb => ?_) (fun _ _ => ev_var rfl) g2 T.cl_Levels T.a_Levels_level (by show 2 < 1000; decide) fun H3 e3 => ?_
    · have e : place = 0 := V.int.inj (of_decide_eq_true hb)
      rw [if_pos e]
      exact ev_c
    · have e : ¬ place = 0 := fun q => (of_decide_eq_false hb) (congrArg V.int q)
      rw [if_neg e]
      exact ev_fld (ev_var rfl) g2 T.cl_Levels T.a_Levels_many (by walk_at "lk")
    have f3 := (f2.trans (Fr.ex (W := [x]) e3)).upd (p := x) (o := .ins CLevels dx (putF "_level" (.int (if place = 0 then 0 else many)) [("_place", .int place), ("_many", .int many)])) (by simp)
    have g3 : (upd H3 x (.ins CLevels dx (putF "_level" (.int (if place = 0 then 0 else many)) [("_place", .int place), ("_many", .int many)]))) x = _ := upd_same
    generalize upd H3 x (.ins CLevels dx (putF "_level" (.int (if place = 0 then 0 else many)) [("_place", .int place), ("_many", .int many)])) = G3 at f3 g3 ⊢
    refine q_fld ev_c (fun _ _ => ev_var rfl) g3 T.cl_Levels T.a_Levels_head (by show 3 < 1000; decide) fun H4 e4 => ?_
    have f4 := (f3.trans (Fr.ex (W := [x]) e4)).upd (p := x) (o := .ins CLevels dx (putF "_head" .non (putF "_level" (.int (if place = 0 then 0 else many)) [("_place", .int place), ("_many", .int many)]))) (by simp)
    have g4 : (upd H4 x (.ins CLevels dx (putF "_head" .non (putF "_level" (.int (if place = 0 then 0 else many)) [("_place", .int place), ("_many", .int many)])))) x = some (.ins CLevels dx [("_place", .int place), ("_many", .int many), ("_level", .int (if place = 0 then 0 else many)), ("_head", .non)]) := by rw [upd_same]; walk_at "pf"
    generalize upd H4 x (.ins CLevels dx (putF "_head" .non (putF "_level" (.int (if place = 0 then 0 else many)) [("_place", .int place), ("_many", .int many)]))) = G4 at f4 g4 ⊢
    -- self._spoken = {}
    refine fun d1 n1 => ⟨_, rfl, x, CLevels, dx, _, rfl, Ex.new n1 _ _ g4, T.cl_Levels, T.a_Levels_spoken, (by show 4 < 1000; decide), ?_⟩
    have x1 : x ≠ d1 := fun e => by rw [← e, g4] at n1; cases n1
    have m1 : H d1 = none := by
      cases q : H d1 with
      | none => rfl
      | some o => rw [f4 _ _ (by simpa using x1.symm) q] at n1; cases n1
    have f5 : Fr [x] H (upd (upd G4 d1 (.dK [])) x (.ins CLevels dx (putF "_spoken" (.ref d1) [("_place", .int place), ("_many", .int many), ("_level", .int (if place = 0 then 0 else many)), ("_head", .non)]))) := (f4.trans (Fr.ex (Ex.new n1))).upd (by simp)
    have g5 : (upd (upd G4 d1 (.dK [])) x (.ins CLevels dx (putF "_spoken" (.ref d1) [("_place", .int place), ("_many", .int many), ("_level", .int (if place = 0 then 0 else many)), ("_head", .non)]))) x = _ := upd_same
    have k5 : (upd (upd G4 d1 (.dK [])) x (.ins CLevels dx (putF "_spoken" (.ref d1) [("_place", .int place), ("_many", .int many), ("_level", .int (if place = 0 then 0 else many)), ("_head", .non)]))) d1 = some (.dK []) := by rw [upd_ne x1.symm]; exact upd_same
    generalize upd (upd G4 d1 (.dK [])) x (.ins CLevels dx (putF "_spoken" (.ref d1) [("_place", .int place), ("_many", .int many), ("_level", .int (if place = 0 then 0 else many)), ("_head", .non)])) = G5 at f5 g5 k5 ⊢
    refine fun d2 n2 => ⟨_, rfl, x, CLevels, dx, _, rfl, Ex.new n2 _ _ g5, T.cl_Levels, T.a_Levels_kept, (by show 5 < 1000; decide), ?_⟩
    have x2 : x ≠ d2 := fun e => by rw [← e, g5] at n2; cases n2
    have d12 : d1 ≠ d2 := fun e => by rw [← e, k5] at n2; cases n2
    have m2 : H d2 = none := by
      cases q : H d2 with
      | none => rfl
      | some o => rw [f5 _ _ (by simpa using x2.symm) q] at n2; cases n2
    refine k _ d1 d2 ((f5.trans (Fr.ex (Ex.new n2))).upd (by simp)) m1 m2 ⟨Lv.ok_new hpl hmn, ⟨dx, ?_⟩, ?_, ?_, d12⟩
    · rw [upd_same]
      unfold lvF Lv.new optV
      walk_at "pf"
    · rw [upd_ne x1.symm, upd_ne d12]
      exact k5
    · rw [upd_ne x2.symm]
      exact upd_same
theorem c_Levels_level : Met P w K mg base CX0 1 CLevels "level" (spLevel CLevels) := by
  refine T.d_Levels_level.met T.cl_Levels sc_Levels_level (fun vs H Q E h => ?_) (fun f cdv A outer s H vs Q E g hr h => ?_)
  · obtain ⟨p, d1, d2, s, rfl, _⟩ := h
    rfl
  · obtain ⟨p, d1, d2, s, rfl, hL, k⟩ := h
    obtain ⟨dx, hp⟩ := hL.ins
    refine ⟨_, (pss_one (ps_ret (k_fld (K := K) rfl (pv 0) rfl))), ?_⟩
    exact s_ret (ev_fld (ev_var rfl) hp T.cl_Levels T.a_Levels_level lvF_level) k
theorem c_Levels_head : Met P w K mg base CX0 1 CLevels "head" (spHead CLevels) := by
  refine T.d_Levels_head.met T.cl_Levels sc_Levels_head (fun vs H Q E h => ?_) (fun f cdv A outer s H vs Q E g hr h => ?_)
  · obtain ⟨p, d1, d2, s, rfl, _⟩ := h
    rfl
  · obtain ⟨p, d1, d2, s, rfl, hL, k⟩ := h
    obtain ⟨dx, hp⟩ := hL.ins
    refine ⟨_, (pss_one (ps_ret (k_fld (K := K) rfl (pv 0) rfl))), ?_⟩
    exact s_ret (ev_fld (ev_var rfl) hp T.cl_Levels T.a_Levels_head lvF_head) k
theorem c_Levels_hears : Met P w K mg base CX0 2 CLevels "hears" (spHears CLevels) := by
  refine T.d_Levels_hears.met T.cl_Levels sc_Levels_hears (fun vs H Q E h => ?_) (fun f cdv A outer s H vs Q E g hr h => ?_)
  · obtain ⟨p, d1, d2, s, n, l, t, rfl, _⟩ := h
    rfl
  · obtain ⟨p, d1, d2, s, n, l, t, rfl, hL, hn, hl, k⟩ := h
    obtain ⟨dx, hp⟩ := hL.ins
    refine ⟨_, (pss_cons (ps_par (i := 4) (j := 5) (by rfl) sc_Levels_hears.nd rfl rfl (by decide) rfl rfl (pa_cons (ec (c_number_of T) g hr (by decide) pass0 (by rfl) (pa_cons (pv 1) pa_nil)) (pa_cons (ec (c_number_of T) g hr (by decide) pass0 (by rfl) (pa_cons (pv 3) pa_nil)) pa_nil)) (by rfl))
    (pss_cons (ps_if (PW.pt (pw_and (pt_cmp (pc_din (hu_of hr) (pv 4) (k_fld (K := K) rfl (pv 0) rfl))) (pw_and1 (pt_cmpR op_le (pv 5) (pe_dget (hu_of hr) (k_fld (K := K) rfl (pv 0) rfl) (pv 4) (fun _ _ => rfl)) (nomark _))))) (pss_one ps_retN) pss_nil)
    (pss_cons (ps_dput (hu_of hr) (k_fld (K := K) rfl (pv 0) rfl) (pv 4) (pv 5) (by rfl))
    (pss_one (ps_dput (hu_of hr) (k_fld (K := K) rfl (pv 0) rfl) (pv 4) (ec (c_number_of T) g hr (by decide) pass0 (by rfl) (pa_cons (pv 2) pa_nil)) (by rfl)))))), ?_⟩
    refine q_par (ea_cons (ev_cl (ea_cons (ev_var rfl) ea_nil) (sv_number K H n)) (ea_cons (ev_cl (ea_cons (ev_var rfl) ea_nil) (sv_number K H t)) ea_nil)) fun H1 e1 => ?_
    have sp : ∀ H2, Ex H1 H2 → H2 d1 = some (.dK (encK s.sp)) := fun H2 e2 => e2 _ _ (e1 _ _ hL.h1)
    have fs : ∀ H2, Ex H1 H2 → Ev (tFld K (tVar 0) "_spoken") [some (V.ref p), some (V.int n), some (V.int l), some (V.int t), some (V.int n), some (V.int t)] H2 (.ref d1) := fun H2 e2 => ev_fld (ev_var rfl) (e2 _ _ (e1 _ _ hp)) T.cl_Levels T.a_Levels_spoken lvF_spoken
    refine q_when (b := (look s.sp n).isSome && s.old n t) (et_and (et_B ?_) fun hb => ?_) (fun hb H2 e2 => ?_) fun hb H2 e2 => ?_
    · intro H2 e2 Q q
      exact ⟨_, rfl, fs H2 e2 H2 (Ex.refl _) _ fun H3 e3 => ⟨d1, look s.sp n |>.map V.int, rfl, by rw [← valV_enc]; exact DGet.k (k := Sum.inl n) (sp H3 (e2.trans e3)), by rw [Option.isSome_map]; exact q H3 e3⟩⟩
    · cases hs : look s.sp n with
      | none => rw [hs] at hb; cases hb
      | some u =>
        refine et_test (ev_is (ev_op (ev_var rfl) (y := .int u) ?_ rv_I0) ?_)
        · intro H2 e2 Q q
          exact fs H2 e2 H2 (Ex.refl _) _ fun H3 e3 => ⟨_, rfl, d1, .int u, rfl, by
            have := DGet.k (k := Sum.inl n) (sp H3 (e2.trans e3))
            rw [valV_enc, hs] at this
            exact this, q H3 e3⟩
        · unfold Lv.old
          rw [hs]
    · rw [Bool.and_eq_true] at hb
      have e0 : s.hears n l t = s := by unfold Lv.hears; rw [if_pos hb.2]
      rw [e0] at k
      exact k _ (Fr.ex (e1.trans e2)) (hL.ex (e1.trans e2))
    · have e0 : s.old n t = false := by
        unfold Lv.old at hb ⊢
        cases hs : look s.sp n with
        | none => rfl
        | some u => rw [hs] at hb; exact hb
      have hk : s.hears n l t = { s with sp := put s.sp n t, kp := put s.kp n l } := by unfold Lv.hears; rw [if_neg (by rw [e0]; decide)]
      have ok := hL.ok.hears (n := n) (l := l) (t := t) hn hl
      rw [hk] at k ok
      have e12 := e1.trans e2
      have q1 := e12 _ _ hL.h1
      have q2 := e12 _ _ hL.h2
      have n1 : p ≠ d1 := fun z => by rw [z, hL.h1] at hp; cases hp
      have n2 : p ≠ d2 := fun z => by rw [z, hL.h2] at hp; cases hp
      have z1 := hL.ok.sfew
      have z2 := hL.ok.kfew
      refine ⟨_, rfl, ev_fld (ev_var rfl) (e12 _ _ hp) T.cl_Levels T.a_Levels_spoken lvF_spoken H2 (Ex.refl _) _ fun H3 e3 => ⟨_, rfl, d1, _, rfl, .inl ⟨encK s.sp, .inl n, e3 _ _ q1, rfl, by rw [encK_len]; exact sz_lt (by omega), rfl⟩, ?_⟩⟩
      rw [putK_enc]
      have e13 := e12.trans e3
      have p3 : (upd H3 d1 (.dK (encK (put s.sp n t)))) p = some (.ins CLevels dx (lvF s d1 d2)) := by rw [upd_ne n1]; exact e13 _ _ hp
      refine ev_cl (ea_cons (ev_var rfl) ea_nil) (sv_number K _ l) _ (Ex.refl _) _ fun H4 e4 => ev_fld (ev_var rfl) (e4 _ _ p3) T.cl_Levels T.a_Levels_kept lvF_kept H4 (Ex.refl _) _ fun H5 e5 => ⟨_, rfl, d2, _, rfl, .inl ⟨encK s.kp, .inl n, (e4.trans e5) _ _ (by rw [upd_ne hL.ne.symm]; exact e13 _ _ hL.h2), rfl, by rw [encK_len]; exact sz_lt (by omega), rfl⟩, ?_⟩
      rw [putK_enc]
      refine k _ ((((Fr.ex e13).upd (by simp)).trans (Fr.ex (e4.trans e5))).upd (by simp)) ⟨ok, ⟨dx, ?_⟩, ?_, ?_, hL.ne⟩
      · rw [upd_ne n2]
        exact (e4.trans e5) _ _ p3
      · rw [upd_ne hL.ne]
        exact (e4.trans e5) _ _ upd_same
      · exact upd_same
theorem c_Levels_find : Met P w K mg base CX0 1 CLevels "_find" (spFind CLevels) := by
  refine T.d_Levels_find.met T.cl_Levels sc_Levels_find (fun vs H Q E h => ?_) (fun f cdv A outer s H vs Q E g hr h => ?_)
  · obtain ⟨p, d1, d2, s, rfl, _⟩ := h
    rfl
  · obtain ⟨p, d1, d2, s, rfl, hL, k⟩ := h
    obtain ⟨dx, hp⟩ := hL.ins
    refine ⟨_, (pss_cons (ps_asg (pe_tup (pa_cons (k_fld (K := K) rfl (pv 0) rfl) (pa_cons pe_non pa_nil))) (k_gtup (K := K) rfl (by rfl) (pgs_cons (k_gfld (K := K) rfl (pv 0)) (pgs_cons (k_gfld (K := K) rfl (pv 0)) pgs_nil))))
    (pss_one (ps_if (k_truth (K := K) rfl (k_fld (K := K) rfl (pv 0) rfl) (by intro _; rfl)) (pss_cons (ps_asg (pe_callB (kcr (K := K) (r := rMinD) (cr_minD rfl (u65 hr)) rfl) (by rfl) T.n_min (by decide +kernel) (pa_cons (pe_lock (pe_lc (own := [("near", 2), ("level", 3)]) (g := (gTup K 2 (gCons (gName 2) (gCons (gName 3) gNil)))) (tt := tYes) (by rfl) sc_Levels_find.nd (pi_items (k_fld (K := K) rfl (pv 0) rfl)) (blkOk_by (own := [("near", 2), ("level", 3)]) (N := ns_Levels_find) (sc := defScope s_Levels_find) (by decide +kernel)) (fun _ _ _ _ _ => (k_gtup (K := K) rfl (by rfl) (pgs_cons (pg_name (i := 2) sc_Levels_find.nd rfl (Or.inl rfl)) (pgs_cons (pg_name (i := 3) sc_Levels_find.nd rfl (Or.inl rfl)) pgs_nil)))) (fun _ _ _ _ _ => pts_nil) (fun _ _ _ _ _ => (pe_tup (pa_cons (pv 3) (pa_cons (pv 2) pa_nil)))))) pa_nil)) (k_gtup (K := K) rfl (by rfl) (pgs_cons (pg_name (i := 1) sc_Levels_find.nd rfl (Or.inl rfl)) (pgs_cons (pg_name (i := 2) sc_Levels_find.nd rfl (Or.inl rfl)) pgs_nil))))
        (pss_one (ps_if (pt_cmpR op_lt (pe_op op_add (pv 1) pe_int) (k_fld (K := K) rfl (pv 0) rfl) (nomark _)) (pss_one (ps_asg (pe_tup (pa_cons (pe_op op_add (pv 1) pe_int) (pa_cons (pv 2) pa_nil))) (k_gtup (K := K) rfl (by rfl) (pgs_cons (k_gfld (K := K) rfl (pv 0)) (pgs_cons (k_gfld (K := K) rfl (pv 0)) pgs_nil))))) pss_nil))) pss_nil))), ?_⟩
    have n1 : p ≠ d1 := fun z => by rw [z, hL.h1] at hp; cases hp
    have n2 : p ≠ d2 := fun z => by rw [z, hL.h2] at hp; cases hp
    -- what a store of level and head leaves
    have stored : ∀ (s0 : Lv) (H1 : Hp) (u : Addr) (l : Int) (h : Option Int) (σ : L2.St) (R : L2.St → Hp → Prop), σ[0]? = some (some (.ref p)) → Fr [p] H H1 → H1 p = some (.ins CLevels dx (lvF s0 d1 d2)) → H1 d1 = some (.dK (encK s0.sp)) → H1 d2 = some (.dK (encK s0.kp)) → H1 u = some (.tup [.int l, optV h]) →
        (∀ H2, Fr [p] H H2 → H2 p = some (.ins CLevels dx (lvF { s0 with level := l, head := h } d1 d2)) → H2 d1 = some (.dK (encK s0.sp)) → H2 d2 = some (.dK (encK s0.kp)) → R σ H2) →
        gTup K 2 (gCons (gFld K (tVar 0) "_level") (gCons (gFld K (tVar 0) "_head") gNil)) (.ref u) σ H1 R := by
      intro s0 H1 u l h σ R hσ fr q q1 q2 hu kk
      refine ⟨u, _, rfl, st_of hu, rfl, _, _, rfl, ⟨_, hσ, p, CLevels, dx, _, rfl, q, T.cl_Levels, T.a_Levels_level, (by show 6 < 1000; decide), ?_⟩⟩
      refine ⟨_, _, rfl, ⟨_, hσ, p, CLevels, dx, _, rfl, upd_same, T.cl_Levels, T.a_Levels_head, lvF_len, ?_⟩⟩
      refine ⟨rfl, kk _ ((fr.upd (by simp)).upd (by simp)) ?_ ?_ ?_⟩
      · rw [upd_same, lvF_put]
      · rw [upd_ne n1.symm, upd_ne n1.symm]
        exact q1
      · rw [upd_ne n2.symm, upd_ne n2.symm]
        exact q2
    refine q_asgUG (eu_tup (ea_cons (ev_fld (ev_var rfl) hp T.cl_Levels T.a_Levels_many lvF_many) (ea_cons ev_c ea_nil)) (by show 2 ≤ 100000; decide)) fun u H1 u0 e1 hu => ?_
    refine stored s H1 u s.many none _ _ rfl (Fr.ex e1) (e1 _ _ hp) (e1 _ _ hL.h1) (e1 _ _ hL.h2) hu fun H2 f2 p2 q1 q2 => ?_
    have okM : ({ s with level := s.many, head := none } : Lv).Ok := ⟨hL.ok.kn, hL.ok.sn, hL.ok.sub, hL.ok.ten, hL.ok.pl, hL.ok.mn, hL.ok.mn, fun _ z => (nomatch z), hL.ok.kl⟩
    refine s_when (b := !s.kp.isEmpty) (fun H3 e3 Q q => ev_fld (ev_var rfl) (e3 _ _ p2) T.cl_Levels T.a_Levels_kept lvF_kept H3 (Ex.refl _) _ fun H4 e4 => ⟨!s.kp.isEmpty, .inr (.inr ⟨_, e4 _ _ (e3 _ _ q2), by unfold encK; rw [List.isEmpty_map]⟩), q H4 e4⟩) (fun hb H3 e3 => ?_) fun hb H3 e3 => ?_
    · cases hk : s.kp with
      | nil => rw [hk] at hb; cases hb
      | cons a as =>
        have ef : s.find = if (best a as).2 + 1 < s.many then { s with level := (best a as).2 + 1, head := some (best a as).1 } else { s with level := s.many, head := none } := by
          unfold Lv.find
          rw [hk]
        have okf := hL.ok.find
        have hbm := best_mem a as
        rw [← hk] at hbm
        -- least, near = min([..])
        refine q_asgX (R := fun v H4 => ∃ tv, v = .ref tv ∧ SqT K H4 tv [.int (best a as).2, .int (best a as).1] ∧ Ex H3 H4) (evx_cb1 (R := fun v H4 => ∃ pl xs, v = .ref pl ∧ Ex H3 H4 ∧ H4 pl = some (.lst xs) ∧ Tups H4 xs ((encK s.kp).map fun kv => [kv.2, kV kv.1])) (fun Q qq => lc_itemsVK (K := K) (d := d2) (kvs := encK s.kp) (e3 _ _ q2) (by rw [encK_len]; have := hL.ok.kfew; omega) (fun x y => ⟨rfl, rfl⟩) (fun x y => rfl) (fun od => ev_fld (ev_var rfl) (by rw [upd_ne n2]; exact e3 _ _ p2) T.cl_Levels T.a_Levels_kept lvF_kept) Q fun pl xs H4 l0 e4 hl ht => qq _ _ ⟨pl, xs, rfl, e4, hl, ht⟩) ?_) ?_
        rotate_left
        · rintro v H4 ⟨tv, rfl, hT, e4⟩
          refine ⟨tv, _, rfl, hT, rfl, _, _, rfl, _, _, rfl, rfl, ?_⟩
          have p4 := e4 _ _ (e3 _ _ p2)
          refine s_when (b := decide ((best a as).2 + 1 < s.many)) (et_test (ev_op (ev_op (ev_var rfl) ev_c rv_I0) (ev_fld (ev_var rfl) p4 T.cl_Levels T.a_Levels_many lvF_many) rv_I0)) (fun hb H5 e5 => ?_) fun hb H5 e5 => ?_
          · have hlt := of_decide_eq_true hb
            rw [if_pos hlt] at ef
            rw [ef] at k okf
            refine s_asgUG (eu_tup (ea_cons (ev_op (ev_var rfl) ev_c rv_I0) (ea_cons (ev_var rfl) ea_nil)) (by show 2 ≤ 100000; decide)) fun u H6 u0 e6 hu => ?_
            have e36 := ((e3.trans e4).trans e5).trans e6
            refine stored { s with level := s.many, head := none } H6 u ((best a as).2 + 1) (some (best a as).1) _ _ rfl (f2.trans (Fr.ex e36)) (e36 _ _ p2) (e36 _ _ q1) (e36 _ _ q2) hu fun H7 f7 p7 r1 r2 => ?_
            exact k H7 f7 ⟨okf, ⟨dx, p7⟩, r1, r2, hL.ne⟩
          · have hlt := of_decide_eq_false hb
            rw [if_neg hlt] at ef
            rw [ef] at k
            have e35 := (e3.trans e4).trans e5
            exact k _ (f2.trans (Fr.ex e35)) ⟨okM, ⟨dx, e35 _ _ p2⟩, e35 _ _ q1, e35 _ _ q2, hL.ne⟩
        rintro v H4 ⟨pl, xs, rfl, e4, hl, ht⟩ Q qq
        have ht2 : Tups H4 xs ((a :: as).map fun p => [V.int p.2, V.int p.1]) := by
          have := ht
          unfold encK at this
          rw [List.map_map, hk] at this
          exact this
        have hdp : DpAll K H4 xs ((a :: as).map dP2) := dps_of_tups (fun p => [V.int p.2, V.int p.1]) dP2 (fun p t h => .tup (st_of h) (.cons (.int _) (.cons (.int _) .nil))) ht2
        refine ⟨pl, xs, dP2 a, as.map dP2, rfl, sq_of hl, hdp, alike_P2 (a :: as), (by have := depth_P2 (a :: as); exact Nat.le_trans this (by decide)), fun i v hv hd hdv => ?_⟩
        rw [minD_best] at hdv
        obtain ⟨tv, ys, rfl, hT, hys⟩ := dp_tup hdv
        have ey : ys = [V.int (best a as).2, V.int (best a as).1] := by
          cases hys with | cons h1 h2 => cases h2 with | cons h2 h3 => cases h3; rw [dp_int h1, dp_int h2]
        subst ey
        exact qq _ _ ⟨tv, rfl, hT, e4⟩
    · cases hk : s.kp with
      | cons a as => rw [hk] at hb; cases hb
      | nil =>
        have ef : s.find = { s with level := s.many, head := none } := by
          unfold Lv.find
          rw [hk]
        rw [ef] at k
        exact k _ (f2.trans (Fr.ex e3)) ⟨okM, ⟨dx, e3 _ _ p2⟩, e3 _ _ q1, e3 _ _ q2, hL.ne⟩
theorem c_Levels_at_slot : Met P w K mg base CX0 2 CLevels "at_slot" (spSlot CLevels) := by
  refine T.d_Levels_at_slot.met T.cl_Levels sc_Levels_at_slot (fun vs H Q E h => ?_) (fun f cdv A outer s H vs Q E g hr h => ?_)
  · obtain ⟨p, d1, d2, s, t, q, rfl, _⟩ := h
    rfl
  · obtain ⟨p, d1, d2, s, t, q, rfl, hL, k⟩ := h
    obtain ⟨dx, hp⟩ := hL.ins
    refine ⟨_, (pss_cons (ps_set (i := 3) sc_Levels_at_slot.nd rfl (Or.inr rfl) (pe_op op_sub (ec (c_number_of T) g hr (by decide) pass0 (by rfl) (pa_cons (pv 1) pa_nil)) (ec (c_number_of T) g hr (by decide) pass0 (by rfl) (pa_cons (pv 2) pa_nil))))
    (pss_cons (ps_fld (pv 0) (pe_lock (pe_dc (own := [("near", 4), ("level", 5)]) (g := (gTup K 2 (gCons (gName 4) (gCons (gName 5) gNil)))) (by rfl) sc_Levels_at_slot.nd (pi_items (k_fld (K := K) rfl (pv 0) rfl)) (blkOk_by (own := [("near", 4), ("level", 5)]) (N := ns_Levels_at_slot) (sc := defScope s_Levels_at_slot) (by decide +kernel)) (fun _ _ _ _ _ => (k_gtup (K := K) rfl (by rfl) (pgs_cons (pg_name (i := 4) sc_Levels_at_slot.nd rfl (Or.inl rfl)) (pgs_cons (pg_name (i := 5) sc_Levels_at_slot.nd rfl (Or.inl rfl)) pgs_nil)))) (fun _ _ _ _ _ => pts_one (pt_cmpR op_ge (pe_dget (hu_of hr) (k_fld (K := K) rfl (pv 0) rfl) (pv 4) (fun _ _ => rfl)) (pv 3) (nomark _))) (fun _ _ _ _ _ => (pv 4)) (fun _ _ _ _ _ => (pv 5)))) rfl)
    (pss_cons (ps_if (pt_cmpR op_ne (k_fld (K := K) rfl (pv 0) rfl) pe_int (nomark _)) (pss_one (ps_expr (emt0 (c_Levels_find T) g hr (by decide) pass0 (pv 0)))) pss_nil)
    (pss_one (ps_ret (pe_lc (own := [("near", 4)]) (g := (gName 4)) (by rfl) sc_Levels_at_slot.nd (k_list (K := K) rfl (pe_callB (call_sortedDI rfl) (by rfl) T.n_sorted (by decide +kernel) (pa_cons (k_fld (K := K) rfl (pv 0) rfl) pa_nil))) (blkOk_by (own := [("near", 4)]) (N := ns_Levels_at_slot) (sc := defScope s_Levels_at_slot) (by decide +kernel)) (fun _ _ _ _ _ => (pg_name (i := 4) sc_Levels_at_slot.nd rfl (Or.inl rfl))) (fun _ _ _ _ _ => pts_one (pt_cmp (pc_dnotin (hu_of hr) (pv 4) (k_fld (K := K) rfl (pv 0) rfl)))) (fun _ _ _ _ _ => (pv 4)))))))), ?_⟩
    have n1 : p ≠ d1 := fun z => by rw [z, hL.h1] at hp; cases hp
    have n2 : p ≠ d2 := fun z => by rw [z, hL.h2] at hp; cases hp
    refine q_asg (ev_op (ev_cl (ea_cons (ev_var rfl) ea_nil) (sv_number K H t)) (ev_cl (ea_cons (ev_var rfl) ea_nil) (sv_number K H q)) rv_I0) fun H1 e1 => ?_
    -- self._kept = {..}
    refine q_fldX (R := fun v H2 => ∃ d3, v = .ref d3 ∧ H1 d3 = none ∧ Ex H1 H2 ∧ H2 d3 = some (.dK (encK (s.forget t q).kp))) (fun Q qq => dc_items (K := K) (d := d2) (kvs := encK s.kp) (fun kv => match kv.1 with | .inl x => s.fresh t q (x, 0) | .inr _ => false) (e1 _ _ hL.h2) (by rw [encK_len]; have := hL.ok.kfew; omega) (by rw [encK_keys]; exact hL.ok.kn.map _ fun a b hab e => hab (Sum.inl.inj e)) (fun x y => ⟨rfl, rfl⟩) (fun x y => rfl)
      (fun od => ev_fld (ev_var rfl) (by rw [upd_ne n2]; exact e1 _ _ hp) T.cl_Levels T.a_Levels_kept lvF_kept) (fun od kv H2 e2 hkv => ?_) Q fun d3 H2 m3 e2 h3 => qq _ _ ⟨d3, rfl, m3, e2, ?_⟩) ?_
    · obtain ⟨pr, hpr, rfl⟩ := List.mem_map.mp hkv
      have hin : pr.1 ∈ keys s.sp := hL.ok.sub _ (List.mem_map.mpr ⟨pr, hpr, rfl⟩)
      obtain ⟨u, hu⟩ := look_some hin
      have p2 : H2 p = some (.ins CLevels dx (lvF s d1 d2)) := e2 _ _ (by rw [upd_ne n2]; exact e1 _ _ hp)
      have q2 : H2 d1 = some (.dK (encK s.sp)) := e2 _ _ (by rw [upd_ne hL.ne]; exact e1 _ _ hL.h1)
      refine et_test (ev_is (ev_op (x := .int u) ?_ (ev_var rfl) rv_I0) ?_)
      · intro H3 e3 Q qq
        exact ev_fld (ev_var rfl) (e3 _ _ p2) T.cl_Levels T.a_Levels_spoken lvF_spoken H3 (Ex.refl _) _ fun H4 e4 => ⟨_, rfl, d1, .int u, rfl, by
          have := DGet.k (k := Sum.inl pr.1) (e4 _ _ (e3 _ _ q2))
          rw [valV_enc, hu] at this
          exact this, qq H4 e4⟩
      · show V.bl (decide (u ≥ t - q)) = V.bl (s.fresh t q (pr.1, 0))
        unfold Lv.fresh
        rw [hu]
        rfl
    · have ek : (encK s.kp).filter (fun kv => match kv.1 with | .inl x => s.fresh t q (x, 0) | .inr _ => false) = encK (s.forget t q).kp := by
        unfold encK Lv.forget
        rw [List.filter_map]
        rfl
      rw [h3, ek]
    · rintro v H2 ⟨d3, rfl, m3, e2, h3⟩
      have e12 := e1.trans e2
      refine ⟨_, rfl, p, CLevels, dx, _, rfl, e12 _ _ hp, T.cl_Levels, T.a_Levels_kept, (by show 6 < 1000; decide), ?_⟩
      rw [lvF_keep (kp := (s.forget t q).kp)]
      have m3' : H d3 = none := fresh_back e1 m3
      have n3 : p ≠ d3 := fun z => by rw [← z, hp] at m3'; cases m3'
      have n13 : d1 ≠ d3 := fun z => by rw [← z, hL.h1] at m3'; cases m3'
      have hF : LvAt CLevels (upd H2 p (.ins CLevels dx (lvF (s.forget t q) d1 d3))) p d1 d3 (s.forget t q) := ⟨hL.ok.forget t q, ⟨dx, upd_same⟩, by rw [upd_ne n1.symm]; exact e12 _ _ hL.h1, by rw [upd_ne n3.symm]; exact h3, n13⟩
      have fF : Fr [p] H (upd H2 p (.ins CLevels dx (lvF (s.forget t q) d1 d3))) := (Fr.ex e12).upd (by simp)
      have lF : (upd H2 p (.ins CLevels dx (lvF (s.forget t q) d1 d3))) d3 ≠ none := by rw [upd_ne n3.symm, h3]; exact fun z => nomatch z
      have e0 : ({ s with kp := (s.forget t q).kp } : Lv) = s.forget t q := rfl
      rw [e0]
      generalize upd H2 p (.ins CLevels dx (lvF (s.forget t q) d1 d3)) = G at hF fF lF ⊢
      obtain ⟨dx2, hpF⟩ := hF.ins
      -- what follows: the list told
      have tail : ∀ (s2 : Lv) (H3 : Hp), s2 = s.slot t q → Fr [p] H H3 → LvAt CLevels H3 p d1 d3 s2 → tRet (tLc (iList K (tCB (fun xs H Q => ∃ (a : Addr) (kvs : List (Key × V)) (ks : List Int), xs = [.ref a] ∧ Rd H a (.dK kvs) ∧ kvs.map (·.1) = ks.map Sum.inl ∧ ks.length < 64 ∧ ∀ (ys : List Int) (p : Addr), ys.Perm ks → ys.Pairwise (· ≤ ·) → H p = none → Q (.ref p) (upd H p (.lst (ys.map V.int)))) (tCons (tFld K (tVar 0) "_spoken") tNil))) (gName 4) (tB (tDNotIn (tVar 4) (tFld K (tVar 0) "_kept"))) (tVar 4) [4]) { nx := fun _ H' => Q .non H', rt := Q } [some (.ref p), some (.int t), some (.int q), some (.int (t - q)), none, none] H3 := by
        intro s2 H3 es f3 L3
        subst es
        obtain ⟨dx3, hp3⟩ := L3.ins
        have z1 := L3.ok.sfew
        have sl : EvL (tCB (fun xs H Q => ∃ (a : Addr) (kvs : List (Key × V)) (ks : List Int), xs = [.ref a] ∧ Rd H a (.dK kvs) ∧ kvs.map (·.1) = ks.map Sum.inl ∧ ks.length < 64 ∧ ∀ (ys : List Int) (p : Addr), ys.Perm ks → ys.Pairwise (· ≤ ·) → H p = none → Q (.ref p) (upd H p (.lst (ys.map V.int)))) (tCons (tFld K (tVar 0) "_spoken") tNil)) [some (.ref p), some (.int t), some (.int q), some (.int (t - q)), none, none] H3 ((srt (keys (s.slot t q).sp)).map V.int) := by
          intro H4 e4 R r
          refine ev_fld (ev_var rfl) (e4 _ _ hp3) T.cl_Levels T.a_Levels_spoken lvF_spoken H4 (Ex.refl _) _ fun H5 e5 => ⟨d1, encK (s.slot t q).sp, keys (s.slot t q).sp, rfl, .inl (e5 _ _ (e4 _ _ L3.h1)), encK_keys _, by rw [keys, List.length_map]; omega, fun ys l hp hs l0 => ?_⟩
          rw [srt_eq hp hs]
          exact r l _ (fresh_back e5 l0) (e5.trans (Ex.new l0)) upd_same
        have kl : (srt (keys (s.slot t q).sp)).length ≤ 40000 := by
          rw [(srt_perm _).length_eq, keys, List.length_map]
          omega
        have lc := el_lcNL (K := K) (j := 4) (vs := [4]) (t := tB (tDNotIn (tVar 4) (tFld K (tVar 0) "_kept"))) (te := tVar 4) (fun i => !decide ((srt (keys (s.slot t q).sp)).getD i 0 ∈ keys (s.slot t q).kp)) (fun i => V.int ((srt (keys (s.slot t q).sp)).getD i 0)) sl (by rw [List.length_map]; exact kl) (fun _ => rfl) (fun i x H4 e4 hx => by
          have hi : i < (srt (keys (s.slot t q).sp)).length := by
            have := (List.getElem?_eq_some_iff.mp hx).1
            rw [List.length_map] at this
            exact this
          rw [getD_int hi] at hx
          cases hx
          refine et_B fun H5 e5 R r => ⟨_, rfl, ev_fld (ev_var rfl) (e5 _ _ (e4 _ _ hp3)) T.cl_Levels T.a_Levels_kept lvF_kept H5 (Ex.refl _) _ fun H6 e6 => ⟨d3, (look (s.slot t q).kp _).map V.int, rfl, by rw [← valV_enc]; exact DGet.k (k := Sum.inl _) (e6 _ _ (e5 _ _ (e4 _ _ L3.h2))), ?_⟩⟩
          rw [Option.isSome_map, look_isSome]
          exact r H6 e6) (fun i x H4 e4 hx _ => by
          have hi : i < (srt (keys (s.slot t q).sp)).length := by
            have := (List.getElem?_eq_some_iff.mp hx).1
            rw [List.length_map] at this
            exact this
          rw [getD_int hi] at hx
          cases hx
          exact ev_var rfl)
        refine s_retL lc fun l H4 l0 e4 hl => ?_
        have l0' : H l = none := by
          cases z : H l with
          | none => rfl
          | some o =>
            by_cases lp : l = p
            · rw [lp, hp3] at l0; cases l0
            · rw [f3 _ _ (by simpa using lp) z] at l0; cases l0
        have nl : l ≠ d3 := fun z => by rw [z, L3.h2] at l0; cases l0
        refine k H4 d3 l (f3.trans (Fr.ex e4)) m3' l0' nl (L3.ex e4) ?_
        rw [hl]
        congr 1
        congr 1
        rw [List.length_map]
        exact given_filter (srt (keys (s.slot t q).sp)) (fun x => !decide (x ∈ keys (s.slot t q).kp))
      have es2 : (s.forget t q).place = s.place := rfl
      refine q_when (b := !decide (V.int s.place = V.int 0)) (et_test (ev_op (ev_fld (ev_var rfl) hpF T.cl_Levels T.a_Levels_place (lvF_place (s := s.forget t q))) ev_c (rv_ne rfl))) (fun hb H3 e3 => ?_) fun hb H3 e3 => ?_
      · have np : ¬ s.place = 0 := fun z => by rw [z] at hb; simp at hb
        refine ⟨_, rfl, p, dx2, _, rfl, e3 _ _ hpF, lvF_no (by decide +kernel), p, d1, d3, s.forget t q, rfl, hF.ex e3, fun H4 f4 L4 => ?_⟩
        exact tail _ H4 (by unfold Lv.slot; rw [if_neg np]) ((fF.trans (Fr.ex e3)).trans f4) L4
      · have np : s.place = 0 := by
          have : decide (V.int s.place = V.int 0) = true := by simpa using hb
          exact V.int.inj (of_decide_eq_true this)
        exact tail _ H3 (by unfold Lv.slot; rw [if_pos np]) (fF.trans (Fr.ex e3)) (hF.ex e3)
end
end K48
end
section
set_option Elab.async false
set_option linter.all false
set_option maxRecDepth 100000
set_option maxHeartbeats 4000000
namespace K48
local macro_rules | `(tactic| walk_at "pos") => `(tactic| (show (0 : Int) < _; first | decide | omega))
open PySem PySem.Spec PyProof.Rows L2 Lf 
open Evl
local macro_rules | `(tactic| walk_at "lk") => `(tactic| (simp (disch := decide +kernel) only [lk_hit, lk_miss, lk_nil]))
local macro_rules | `(tactic| walk_at "pf") => `(tactic| (simp (disch := decide +kernel) only [pf_hit, pf_miss, pf_nil]))
section
open Wm
section
variable {P : Program} {w : World} {K : PySem.W.Frag} {mg : Str → Option Value} {base : Heap} {CLevels : Addr} (T : Top K mg CLevels)
include T
theorem c_lw_alike : Cal P w K mg base CX0 1 "_law_alike" (spAlike K) := by
  refine T.d_lw_alike.cal sc_lw_alike (fun vs H Q E h => ?_) (fun f cdv A outer s H vs Q E g hr h => ?_)
  · obtain ⟨u, v, d, rfl, _⟩ := h
    rfl
  · obtain ⟨u, v, d, rfl, hu, hv, r, k⟩ := h
    refine ⟨_, (pss_one (ps_ret (pe_and (pe_cmpR (kop (K := K) (r := rEqD) (op_eqD hr.units) rfl) (pv 0) (pv 1) (nomark _)) (pe_one (pe_cmpR op_eq (pe_callB (kcr (K := K) (r := rRepr) (cr_repr g hr.units) rfl) (by rfl) T.n_repr (by decide +kernel) (pa_cons (pv 0) pa_nil)) (pe_callB (kcr (K := K) (r := rRepr) (cr_repr g hr.units) rfl) (by rfl) T.n_repr (by decide +kernel) (pa_cons (pv 1) pa_nil)) (nomark _)))))), ?_⟩
    exact s_ret (v := .bl (true && true)) (ev_andV (ev_op (ev_var rfl) (ev_var rfl) (rv_eqD hu hv r (by decide))) fun _ => ev_is (ev_op (ev_repr (ev_var rfl) hu r) (ev_repr (ev_var rfl) hv r) (rv_eq rfl)) (by rw [decide_eq_true rfl])) k
end
end
end K48
end
section
set_option Elab.async false
set_option linter.all false
set_option maxRecDepth 100000
set_option maxHeartbeats 4000000
namespace K48
local macro_rules | `(tactic| walk_at "pos") => `(tactic| (show (0 : Int) < _; first | decide | omega))
open PySem PySem.Spec PyProof.Rows L2 Lf 
open Evl
local macro_rules | `(tactic| walk_at "lk") => `(tactic| (simp (disch := decide +kernel) only [lk_hit, lk_miss, lk_nil]))
local macro_rules | `(tactic| walk_at "pf") => `(tactic| (simp (disch := decide +kernel) only [pf_hit, pf_miss, pf_nil]))
/-! two of them, beside a bag, lists and a dict -/
theorem look_put (l : IL) (k v x : Int) : look (put l k v) x = if x = k then some v else look l x := by
  unfold put
  by_cases h : (l.any fun p => decide (p.1 = k)) = true
  · rw [if_pos h]
    have hk := (any_keys l k).mp h
    unfold look
    by_cases q : x = k
    · rw [if_pos q, q]
      obtain ⟨u, hu⟩ := look_some hk
      unfold look at hu
      cases e : l.find? fun p => decide (p.1 = k) with
      | none => rw [e] at hu; cases hu
      | some p =>
        rw [List.find?_map]
        have ef : ((fun p : Int × Int => decide (p.1 = k)) ∘ fun p => if p.1 = k then (p.1, v) else p) = fun p => decide (p.1 = k) := by
          funext p
          show decide ((if p.1 = k then (p.1, v) else p).1 = k) = decide (p.1 = k)
          split
          · rename_i h; simp [h]
          · rfl
        rw [ef, e]
        have hp : p.1 = k := of_decide_eq_true (List.find?_some (p := fun p : Int × Int => decide (p.1 = k)) e)
        show some (if p.1 = k then (p.1, v) else p).2 = some v
        rw [if_pos hp]
    · rw [if_neg q, List.find?_map]
      have ef : ((fun p : Int × Int => decide (p.1 = x)) ∘ fun p => if p.1 = k then (p.1, v) else p) = fun p => decide (p.1 = x) := by
        funext p
        show decide ((if p.1 = k then (p.1, v) else p).1 = x) = decide (p.1 = x)
        split <;> rfl
      rw [ef]
      cases e : l.find? fun p => decide (p.1 = x) with
      | none => rfl
      | some p =>
        have hp : p.1 = x := of_decide_eq_true (List.find?_some (p := fun p : Int × Int => decide (p.1 = x)) e)
        show some (if p.1 = k then (p.1, v) else p).2 = some p.2
        rw [if_neg (fun z => q (hp.symm.trans z))]
  · rw [if_neg h]
    unfold look
    rw [List.find?_append]
    by_cases q : x = k
    · rw [if_pos q, q]
      have : l.find? (fun p => decide (p.1 = k)) = none := List.find?_eq_none.mpr fun p hp z => h (List.any_eq_true.mpr ⟨p, hp, z⟩)
      rw [this]
      simp
    · rw [if_neg q]
      have : ([(k, v)] : IL).find? (fun p => decide (p.1 = x)) = none := by
        simp
        omega
      rw [this, Option.or_none]
theorem mem_keys_look {l : IL} {k : Int} : k ∈ keys l ↔ ∃ u, look l k = some u := by
  constructor
  · exact look_some
  · rintro ⟨u, hu⟩
    by_cases h : k ∈ keys l
    · exact h
    · rw [look_none h] at hu; cases hu
structure Lat (s : Lv) (L : IL) : Prop where
  eq : ∀ n, look s.sp n = look L n
  nn : ∀ n u, look L n = some u → 0 ≤ u
  nd : (keys L).Nodup
theorem Lat.len {s : Lv} {L : IL} (h : Lat s L) (ok : s.Ok) : L.length ≤ 10 := by
  have := few_of 10 _ h.nd fun x hx => ok.ten x (mem_keys_look.mpr (by rw [h.eq]; exact look_some hx))
  rw [keys, List.length_map] at this
  exact this
theorem Lat.heard {s : Lv} {L : IL} {n l t : Int} (h : Lat s L) (ht : 0 ≤ t) : Lat (s.hears n l t) (put L n (if (look L n).getD 0 > t then (look L n).getD 0 else t)) := by
  have hs : ∀ x, look (s.hears n l t).sp x = if x = n then some (if (look L n).getD 0 > t then (look L n).getD 0 else t) else look s.sp x := by
    intro x
    unfold Lv.hears
    cases e : look L n with
    | none =>
      have e2 : s.old n t = false := by unfold Lv.old; rw [h.eq, e]
      rw [if_neg (by rw [e2]; decide)]
      show look (put s.sp n t) x = _
      rw [look_put]
      by_cases q : x = n
      · rw [if_pos q, if_pos q, if_neg (by show ¬ (0 : Int) > t; omega)]
      · rw [if_neg q, if_neg q]
    | some u =>
      have e2 : s.old n t = decide (t ≤ u) := by unfold Lv.old; rw [h.eq, e]
      rw [e2]
      show look (if decide (t ≤ u) = true then s else _).sp x = if x = n then some (if u > t then u else t) else _
      by_cases q : t ≤ u
      · rw [if_pos (decide_eq_true q)]
        by_cases z : x = n
        · rw [if_pos z, z, h.eq, e]
          congr 1
          split <;> omega
        · rw [if_neg z]
      · rw [if_neg (by rw [decide_eq_false q]; decide), if_neg (show ¬ u > t by omega)]
        show look (put s.sp n t) x = _
        rw [look_put]
  refine ⟨fun x => ?_, fun x u hu => ?_, put_nodup h.nd⟩
  · rw [hs, look_put, h.eq]
  · rw [look_put] at hu
    by_cases q : x = n
    · rw [if_pos q] at hu
      cases hu
      split <;> omega
    · rw [if_neg q] at hu
      exact h.nn x u hu
theorem Lat.slot {s : Lv} {L : IL} {t q : Int} (h : Lat s L) : Lat (s.slot t q) L := by
  have e : (s.slot t q).sp = s.sp := by
    unfold Lv.slot
    split
    · rfl
    · unfold Lv.find
      split
      · rfl
      · split <;> rfl
  exact ⟨fun n => by rw [e]; exact h.eq n, h.nn, h.nd⟩
theorem Lat.elder {s : Lv} {L : IL} {n l t u : Int} (h : Lat s L) (hu : look L n = some u) (ht : t ≤ u) : s.hears n l t = s := by
  unfold Lv.hears
  have e : s.old n t = true := by
    unfold Lv.old
    rw [h.eq, hu]
    exact decide_eq_true ht
  rw [if_pos e]
def Wd (C : Addr) (b : Addr × Addr) (q a e : Addr) (os : List Int) (ps : List V) (p1 d11 d12 p2 d21 d22 : Addr) (H : Hp) (s1 s2 : Lv) (L : IL) : Prop :=
  Bag H b ∧ H q = some (.lst ps) ∧ H a = some (.lst (os.map V.int)) ∧ LvAt C H p1 d11 d12 s1 ∧ LvAt C H p2 d21 d22 s2 ∧ H e = some (.dK (encK L)) ∧
    (q ≠ b.1 ∧ a ≠ b.1) ∧ p1 ≠ p2 ∧ (d11 ≠ d12 ∧ d11 ≠ d21 ∧ d11 ≠ d22 ∧ d11 ≠ e ∧ d12 ≠ d21 ∧ d12 ≠ d22 ∧ d12 ≠ e ∧ d21 ≠ d22 ∧ d21 ≠ e ∧ d22 ≠ e)
section
variable {C : Addr} {b : Addr × Addr} {q a e : Addr} {os : List Int} {ps : List V} {p1 d11 d12 p2 d21 d22 : Addr} {H H' : Hp} {s1 s2 : Lv} {L : IL}
theorem Wd.swap (h : Wd C b q a e os ps p1 d11 d12 p2 d21 d22 H s1 s2 L) : Wd C b q a e os ps p2 d21 d22 p1 d11 d12 H s2 s1 L := by
  obtain ⟨h1, h2, h3, h4, h5, h6, h7, h8, n1, n2, n3, n4, n5, n6, n7, n8, n9, n10⟩ := h
  exact ⟨h1, h2, h3, h5, h4, h6, h7, h8.symm, n8, n2.symm, n5.symm, n9, n3.symm, n6.symm, n10, n1, n4, n7⟩
theorem bag_facts (h : Bag H b) : (∃ xs, H b.1 = some (.lst xs)) ∧ ∃ xs, H b.2 = some (.lst xs) := let ⟨_, _, _, _, h1, h2, _⟩ := h; ⟨⟨_, h1⟩, ⟨_, h2⟩⟩
theorem hne {x y : Addr} {o u : HO} (h1 : H x = some o) (h2 : H y = some u) (h : o ≠ u) : x ≠ y := fun z => by
  rw [z, h2] at h1
  cases h1
  exact h rfl
/-- W is of the first one's own -/
theorem Wd.fr {W : List Addr} {d11' d12' : Addr} {s1' : Lv} (h : Wd C b q a e os ps p1 d11 d12 p2 d21 d22 H s1 s2 L) (f : Fr W H H') (hW : ∀ x ∈ W, x = p1 ∨ x = d11 ∨ x = d12) (l : LvAt C H' p1 d11' d12' s1') (h1 : d11' = d11 ∨ H d11' = none) (h2 : d12' = d12 ∨ H d12' = none) :
    Wd C b q a e os ps p1 d11' d12' p2 d21 d22 H' s1' s2 L := by
  obtain ⟨hb, hq, ha, l1, l2, he, ⟨m2, m3⟩, hp, n1, n2, n3, n4, n5, n6, n7, n8, n9, n10⟩ := h
  obtain ⟨⟨xs, b1⟩, ⟨ys, b2⟩⟩ := bag_facts hb
  obtain ⟨dx1, i1⟩ := l1.ins
  obtain ⟨dx2, i2⟩ := l2.ins
  have nW : ∀ x, x ≠ p1 → x ≠ d11 → x ≠ d12 → x ∉ W := fun x a1 a2 a3 hx => by
    rcases hW x hx with z | z | z
    · exact a1 z
    · exact a2 z
    · exact a3 z
  have kd : ∀ {x kvs}, H x = some (HO.dK kvs) → x ≠ p1 := fun hx => hne hx i1 (fun z => nomatch z)
  have ld : ∀ {x xs}, H x = some (HO.lst xs) → x ∉ W := fun hx => nW _ (hne hx i1 (fun z => nomatch z)) (hne hx l1.h1 (fun z => nomatch z)) (hne hx l1.h2 (fun z => nomatch z))
  have w21 := nW d21 (kd l2.h1) n2.symm n5.symm
  have w22 := nW d22 (kd l2.h2) n3.symm n6.symm
  have we := nW e (kd he) n4.symm n7.symm
  have wp2 := nW p2 hp.symm (hne i2 l1.h1 (fun z => nomatch z)) (hne i2 l1.h2 (fun z => nomatch z))
  refine ⟨?_, f _ _ (ld hq) hq, f _ _ (ld ha) ha, l, l2.fr f wp2 w21 w22, f _ _ we he, ⟨m2, m3⟩, hp, l.ne, ?_, ?_, ?_, ?_, ?_, ?_, n8, n9, n10⟩
  · obtain ⟨x, y, z, ns, g1, g2, g3⟩ := hb
    exact ⟨x, y, z, ns, f _ _ (ld g1) g1, f _ _ (ld g2) g2, g3⟩
  all_goals
    first
    | (rcases h1 with rfl | h1
       · assumption
       · intro z
         rw [z] at h1
         first
         | (rw [l2.h1] at h1; cases h1)
         | (rw [l2.h2] at h1; cases h1)
         | (rw [he] at h1; cases h1))
    | (rcases h2 with rfl | h2
       · assumption
       · intro z
         rw [z] at h2
         first
         | (rw [l2.h1] at h2; cases h2)
         | (rw [l2.h2] at h2; cases h2)
         | (rw [he] at h2; cases h2))
theorem Wd.step (h : Wd C b q a e os ps p1 d11 d12 p2 d21 d22 H s1 s2 L) (s : Step b H H') : Wd C b q a e os ps p1 d11 d12 p2 d21 d22 H' s1 s2 L := by
  obtain ⟨hb, hq, ha, l1, l2, he, ⟨m2, m3⟩, hp, n⟩ := h
  obtain ⟨⟨xs, b1⟩, ⟨ys, b2⟩⟩ := bag_facts hb
  obtain ⟨dx1, i1⟩ := l1.ins
  obtain ⟨dx2, i2⟩ := l2.ins
  have kd : ∀ {x kvs}, H x = some (HO.dK kvs) → H' x = some (HO.dK kvs) := fun hx => s.at (hne hx b1 (fun z => nomatch z)) hx
  have id : ∀ {x C dx fs}, H x = some (HO.ins C dx fs) → H' x = some (HO.ins C dx fs) := fun hx => s.at (hne hx b1 (fun z => nomatch z)) hx
  exact ⟨s.1, s.at m2 hq, s.at m3 ha, ⟨l1.ok, ⟨dx1, id i1⟩, kd l1.h1, kd l1.h2, l1.ne⟩, ⟨l2.ok, ⟨dx2, id i2⟩, kd l2.h1, kd l2.h2, l2.ne⟩, kd he, ⟨m2, m3⟩, hp, n⟩
theorem Wd.ex (h : Wd C b q a e os ps p1 d11 d12 p2 d21 d22 H s1 s2 L) (x : Ex H H') : Wd C b q a e os ps p1 d11 d12 p2 d21 d22 H' s1 s2 L := h.step (.pure h.1 x)
/-- the dict is put otherwise -/
theorem Wd.put {L' : IL} (h : Wd C b q a e os ps p1 d11 d12 p2 d21 d22 H s1 s2 L) : Wd C b q a e os ps p1 d11 d12 p2 d21 d22 (upd H e (.dK (encK L'))) s1 s2 L' := by
  obtain ⟨hb, hq, ha, l1, l2, he, m, hp, n1, n2, n3, n4, n5, n6, n7, n8, n9, n10⟩ := h
  obtain ⟨dx1, i1⟩ := l1.ins
  obtain ⟨dx2, i2⟩ := l2.ins
  have ld : ∀ {x xs}, H x = some (HO.lst xs) → upd H e (.dK (encK L')) x = some (HO.lst xs) := fun hx => by rw [upd_ne (hne hx he (fun z => nomatch z))]; exact hx
  have id : ∀ {x C dx fs}, H x = some (HO.ins C dx fs) → upd H e (.dK (encK L')) x = some (HO.ins C dx fs) := fun hx => by rw [upd_ne (hne hx he (fun z => nomatch z))]; exact hx
  have kd : ∀ {x kvs}, x ≠ e → H x = some (HO.dK kvs) → upd H e (.dK (encK L')) x = some (HO.dK kvs) := fun hx h => by rw [upd_ne hx]; exact h
  obtain ⟨x, y, z, ns, g1, g2, g3⟩ := hb
  exact ⟨⟨x, y, z, ns, ld g1, ld g2, g3⟩, ld hq, ld ha, ⟨l1.ok, ⟨dx1, id i1⟩, kd n4 l1.h1, kd n7 l1.h2, l1.ne⟩, ⟨l2.ok, ⟨dx2, id i2⟩, kd n9 l2.h1, kd n10 l2.h2, l2.ne⟩, upd_same, m, hp, n1, n2, n3, n4, n5, n6, n7, n8, n9, n10⟩
end
theorem rep_ints {ns : List Int} (h : ∀ n ∈ ns, n.natAbs < 1000) (hl : ns.length ≤ 1000) : Wm.Rep 60 1000000 (.list (ns.map PyData.int)) := by
  have r := Wm.Rep.list (n := 0) (w := 40) (ds := ns.map PyData.int) fun d hd => by
    obtain ⟨n, hn, rfl⟩ := List.mem_map.mp hd
    exact Wm.Rep.int (Nat.lt_trans (h n hn) (by decide))
  refine r.mono (by decide) ?_
  rw [List.length_map]
  omega
theorem told_small {s : Lv} (h : s.Ok) : (∀ n ∈ s.told, n.natAbs < 1000) ∧ s.told.length ≤ 1000 := by
  unfold Lv.told
  constructor
  · intro n hn
    have h1 := (List.mem_filter.mp hn).1
    have h2 := h.ten n ((srt_perm _).mem_iff.mp h1)
    omega
  · refine Nat.le_trans (List.length_filter_le _ _) ?_
    rw [(srt_perm _).length_eq, keys, List.length_map]
    have := h.sfew
    omega
theorem rep_lh {s : Lv} (h : s.Ok) : Wm.Rep 60 1000000 (.list [.int s.level, match s.head with | none => .none | some i => .int i]) := by
  have r := Wm.Rep.list (n := 0) (w := 40) (ds := [.int s.level, match s.head with | none => .none | some i => .int i]) fun d hd => by
    rcases List.mem_cons.mp hd with rfl | hd
    · exact Wm.Rep.int (by have := h.lv; have : (1001 : Nat) < 10 ^ 12 := by decide
                           omega)
    · rw [List.mem_singleton.mp hd]
      cases e : s.head with
      | none => exact Wm.Rep.non.mono (by decide) (by decide)
      | some i =>
        have := h.hd i e
        exact Wm.Rep.int (by have : (1001 : Nat) < 10 ^ 12 := by decide
                             omega)
  exact r.mono (by decide) (by show 2 * 41 ≤ 1000000; decide)
theorem dp_lh {K : PySem.W.Frag} {H : Hp} {p : Addr} {s : Lv} (h : H p = some (.lst [.int s.level, optV s.head])) : Dp K H (.ref p) (.list [.int s.level, match s.head with | none => .none | some i => .int i]) := by
  refine .lst (sq_of h) (.cons (.int _) (.cons ?_ .nil))
  cases s.head with
  | none => exact .non
  | some i => exact .int i

theorem ex_made {C x dx : Addr} {H H' : Hp} (n : H x = none) (nd : H dx = none) (f : Fr [x] (upd (upd H dx (.own x)) x (.ins C dx [])) H') : Ex H H' := fun a o h => by
  have h1 : a ≠ x := fun z => by rw [z, n] at h; cases h
  have h2 : a ≠ dx := fun z => by rw [z, nd] at h; cases h
  exact f a o (by simpa using h1) (by rw [upd_ne h1, upd_ne h2]; exact h)
theorem none_made {C x dx d : Addr} {H : Hp} (h : (upd (upd H dx (.own x)) x (.ins C dx [])) d = none) : H d = none := by
  by_cases h1 : d = x
  · rw [h1, upd_same] at h; cases h
  · rw [upd_ne h1] at h
    by_cases h2 : d = dx
    · rw [h2, upd_same] at h; cases h
    · rw [upd_ne h2] at h
      exact h
end K48
end
section
set_option Elab.async false
set_option linter.all false
set_option maxRecDepth 100000
set_option maxHeartbeats 4000000
namespace K48
local macro_rules | `(tactic| walk_at "pos") => `(tactic| (show (0 : Int) < _; first | decide | omega))
open PySem PySem.Spec PyProof.Rows L2 Lf 
open Evl
local macro_rules | `(tactic| walk_at "lk") => `(tactic| (simp (disch := decide +kernel) only [lk_hit, lk_miss, lk_nil]))
local macro_rules | `(tactic| walk_at "pf") => `(tactic| (simp (disch := decide +kernel) only [pf_hit, pf_miss, pf_nil]))
def spCopied (C : Addr) : Sp := fun vs H Q _ => ∃ (p d1 d2 : Addr) (s : Lv), vs = [.ref p] ∧ LvAt C H p d1 d2 s ∧ ∀ (p' c1 c2 : Addr) H', Ex H H' → H p' = none → H c1 = none → H c2 = none → LvAt C H' p' c1 c2 s → Q (.ref p') H'
theorem lvF_putL {s : Lv} {d1 d2 : Addr} (l : Int) : putF "_level" (.int l) (lvF s d1 d2) = lvF { s with level := l } d1 d2 := by unfold lvF; walk_at "pf"
theorem lvF_putH {s : Lv} {d1 d2 : Addr} (h : Option Int) : putF "_head" (optV h) (lvF s d1 d2) = lvF { s with head := h } d1 d2 := by unfold lvF; walk_at "pf"
theorem lvF_putS {s : Lv} {d1 d2 d3 : Addr} {sp : IL} : putF "_spoken" (.ref d3) (lvF s d1 d2) = lvF { s with sp := sp } d3 d2 := by unfold lvF; walk_at "pf"
theorem lvF_length {s : Lv} {d1 d2 : Addr} : (lvF s d1 d2).length < 1000 := by show 6 < 1000; decide
section
variable {P : Program} {w : World} {K : PySem.W.Frag} {mg : Str → Option Value} {base : Heap} {CLevels : Addr} (T : Top K mg CLevels)
include T
theorem c_Levels_copied : Met P w K mg base CX0 5 CLevels "copied" (spCopied CLevels) := by
  refine T.d_Levels_copied.met T.cl_Levels sc_Levels_copied (fun vs H Q E h => ?_) (fun f cdv A outer s H vs Q E g hr h => ?_)
  · obtain ⟨p, d1, d2, s, rfl, _⟩ := h
    rfl
  · obtain ⟨p, d1, d2, s, rfl, hL, k⟩ := h
    obtain ⟨dx, hp⟩ := hL.ins
    have ok := hL.ok
    refine ⟨_, (pss_cons (ps_set (i := 1) sc_Levels_copied.nd rfl (Or.inl rfl) (emk (c_Levels T) g hr (by decide) pass0 (by rfl) (pa_cons (k_fld (K := K) rfl (pv 0) rfl) (pa_cons (k_fld (K := K) rfl (pv 0) rfl) pa_nil))))
    (pss_cons (ps_fld (pv 1) (k_fld (K := K) rfl (pv 0) rfl) rfl)
    (pss_cons (ps_fld (pv 1) (k_fld (K := K) rfl (pv 0) rfl) rfl)
    (pss_cons (ps_fld (pv 1) (pe_callTy call_dictD (by rfl) T.n_dict (by decide +kernel) (pa_cons (k_fld (K := K) rfl (pv 0) rfl) pa_nil)) rfl)
    (pss_cons (ps_fld (pv 1) (pe_callTy call_dictD (by rfl) T.n_dict (by decide +kernel) (pa_cons (k_fld (K := K) rfl (pv 0) rfl) pa_nil)) rfl)
    (pss_one (ps_ret (pv 1)))))))), ?_⟩
    -- twin
    have e12 : Ex H H := Ex.refl _
    refine ⟨_, rfl, p, CLevels, dx, _, _, rfl, hp, T.cl_Levels, T.a_Levels_place, lvF_place, _, rfl, p, CLevels, dx, _, _, rfl, hp, T.cl_Levels, T.a_Levels_many, lvF_many, fun x dy nx ndx ne => ⟨x, dy, s.place, s.many, rfl, upd_same, ok.pl, ok.mn, fun H3 c1 c2 f3 m1 m2 L3 => ⟨rfl, ?_⟩⟩⟩
    have e3 := ex_made nx ndx f3
    have x0 : H x = none := fresh_back e12 nx
    have hp3 := e3 _ _ (e12 _ _ hp)
    obtain ⟨dz, hx3⟩ := L3.ins
    have npx : p ≠ x := fun z => by rw [z, x0] at hp; cases hp
    -- twin._level
    refine q_fld (ev_fld (ev_var rfl) hp3 T.cl_Levels T.a_Levels_level lvF_level) (fun _ _ => ev_var rfl) hx3 T.cl_Levels T.a_Levels_level lvF_length fun H4 e4 => ?_
    rw [lvF_putL]
    have g4 : Ex H (upd H4 x (.ins CLevels dz (lvF { (Lv.new s.place s.many) with level := s.level } c1 c2))) := Ex.mut ((e12.trans e3).trans e4) x0
    have hx4 : (upd H4 x (.ins CLevels dz (lvF { (Lv.new s.place s.many) with level := s.level } c1 c2))) x = _ := upd_same
    generalize upd H4 x (.ins CLevels dz (lvF { (Lv.new s.place s.many) with level := s.level } c1 c2)) = G4 at g4 hx4 ⊢
    refine q_fld (ev_fld (ev_var rfl) (g4 _ _ hp) T.cl_Levels T.a_Levels_head lvF_head) (fun _ _ => ev_var rfl) hx4 T.cl_Levels T.a_Levels_head lvF_length fun H5 e5 => ?_
    rw [lvF_putH]
    have g5 : Ex H (upd H5 x (.ins CLevels dz (lvF { (Lv.new s.place s.many) with level := s.level, head := s.head } c1 c2))) := Ex.mut (g4.trans e5) x0
    have hx5 : (upd H5 x (.ins CLevels dz (lvF { (Lv.new s.place s.many) with level := s.level, head := s.head } c1 c2))) x = _ := upd_same
    generalize upd H5 x (.ins CLevels dz (lvF { (Lv.new s.place s.many) with level := s.level, head := s.head } c1 c2)) = G5 at g5 hx5 ⊢
    -- twin._spoken = dict(..)
    obtain ⟨H6, H6e⟩ : ∃ H6, H6 = G5 := ⟨_, rfl⟩
    have e6 : Ex G5 H6 := H6e ▸ Ex.refl _
    rw [← H6e]
    refine ⟨_, rfl, p, CLevels, dx, _, _, rfl, e6 _ _ (g5 _ _ hp), T.cl_Levels, T.a_Levels_spoken, lvF_spoken, d1, encK s.sp, rfl, .inl (e6 _ _ (g5 _ _ hL.h1)), fun q1 hq1 => ⟨_, rfl, x, CLevels, dz, _, rfl, Ex.new hq1 _ _ (e6 _ _ hx5), T.cl_Levels, T.a_Levels_spoken, lvF_length, ?_⟩⟩
    rw [lvF_putS (sp := s.sp)]
    have xq1 : x ≠ q1 := fun z => by rw [← z, e6 _ _ hx5] at hq1; cases hq1
    have g6 : Ex H (upd (upd H6 q1 (.dK (encK s.sp))) x (.ins CLevels dz (lvF { (Lv.new s.place s.many) with level := s.level, head := s.head, sp := s.sp } q1 c2))) := Ex.mut ((g5.trans e6).trans (Ex.new hq1)) x0
    have hx6 : (upd (upd H6 q1 (.dK (encK s.sp))) x (.ins CLevels dz (lvF { (Lv.new s.place s.many) with level := s.level, head := s.head, sp := s.sp } q1 c2))) x = _ := upd_same
    have hs6 : (upd (upd H6 q1 (.dK (encK s.sp))) x (.ins CLevels dz (lvF { (Lv.new s.place s.many) with level := s.level, head := s.head, sp := s.sp } q1 c2))) q1 = some (.dK (encK s.sp)) := by rw [upd_ne xq1.symm]; exact upd_same
    have q10 : H q1 = none := fresh_back (g5.trans e6) hq1
    generalize upd (upd H6 q1 (.dK (encK s.sp))) x (.ins CLevels dz (lvF { (Lv.new s.place s.many) with level := s.level, head := s.head, sp := s.sp } q1 c2)) = G6 at g6 hx6 hs6 ⊢
    obtain ⟨H7, H7e⟩ : ∃ H7, H7 = G6 := ⟨_, rfl⟩
    have e7 : Ex G6 H7 := H7e ▸ Ex.refl _
    rw [← H7e]
    refine ⟨_, rfl, p, CLevels, dx, _, _, rfl, e7 _ _ (g6 _ _ hp), T.cl_Levels, T.a_Levels_kept, lvF_kept, d2, encK s.kp, rfl, .inl (e7 _ _ (g6 _ _ hL.h2)), fun q2 hq2 => ⟨_, rfl, x, CLevels, dz, _, rfl, Ex.new hq2 _ _ (e7 _ _ hx6), T.cl_Levels, T.a_Levels_kept, lvF_length, ?_⟩⟩
    rw [lvF_keep (kp := s.kp)]
    have xq2 : x ≠ q2 := fun z => by rw [← z, e7 _ _ hx6] at hq2; cases hq2
    have q12 : q1 ≠ q2 := fun z => by rw [← z, e7 _ _ hs6] at hq2; cases hq2
    refine ⟨_, rfl, k x q1 q2 _ (Ex.mut ((g6.trans e7).trans (Ex.new hq2)) x0) x0 q10 (fresh_back (g6.trans e7) hq2) ⟨ok, ⟨dz, upd_same⟩, ?_, ?_, q12⟩⟩
    · rw [upd_ne xq1.symm, upd_ne q12]
      exact e7 _ _ hs6
    · rw [upd_ne xq2.symm]
      exact upd_same
end
end K48
end
section
set_option Elab.async false
set_option linter.all false
set_option maxRecDepth 100000
set_option maxHeartbeats 4000000
namespace K48
local macro_rules | `(tactic| walk_at "pos") => `(tactic| (show (0 : Int) < _; first | decide | omega))
open PySem PySem.Spec PyProof.Rows L2 Lf 
open Evl
local macro_rules | `(tactic| walk_at "lk") => `(tactic| (simp (disch := decide +kernel) only [lk_hit, lk_miss, lk_nil]))
local macro_rules | `(tactic| walk_at "pf") => `(tactic| (simp (disch := decide +kernel) only [pf_hit, pf_miss, pf_nil]))
/-! alike up to the order of their dicts -/
theorem best_least (p : Int × Int) (ps : IL) : ∀ y ∈ p :: ps, lessP (best p ps) y = false := by
  unfold best
  induction ps generalizing p with
  | nil =>
    intro y hy
    rw [List.mem_singleton.mp hy]
    unfold lessP
    simp
  | cons z ps ih =>
    intro y hy
    rw [List.foldl_cons]
    have hI := ih (if lessP p z = true then z else p)
    have hw : lessP (List.foldl (fun a y => if lessP a y = true then y else a) (if lessP p z = true then z else p) ps) (if lessP p z = true then z else p) = false := hI _ List.mem_cons_self
    have tr : ∀ a c d : Int × Int, lessP a c = false → lessP c d = false → lessP a d = false := by
      intro a c d h1 h2
      unfold lessP at *
      have h1 := of_decide_eq_false h1
      have h2 := of_decide_eq_false h2
      exact decide_eq_false (by omega)
    rcases List.mem_cons.mp hy with rfl | hy
    · refine tr _ _ _ hw ?_
      by_cases q : lessP y z = true
      · rw [if_pos q]
        unfold lessP at *
        have := of_decide_eq_true q
        exact decide_eq_false (by omega)
      · rw [if_neg q]
        unfold lessP
        simp
    · rcases List.mem_cons.mp hy with rfl | hy
      · refine tr _ _ _ hw ?_
        by_cases q : lessP p y = true
        · rw [if_pos q]
          unfold lessP
          simp
        · rw [if_neg q]
          exact Bool.eq_false_iff.mpr q
      · exact hI y (List.mem_cons_of_mem _ hy)
theorem look_mem {l : IL} {p : Int × Int} (hn : (keys l).Nodup) (h : p ∈ l) : look l p.1 = some p.2 := by
  induction l with
  | nil => cases h
  | cons x l ih =>
    have hc := List.nodup_cons.mp (show (x.1 :: keys l).Nodup from hn)
    unfold look
    rw [List.find?_cons]
    by_cases q : x.1 = p.1
    · rw [decide_eq_true q]
      rcases List.mem_cons.mp h with rfl | h
      · rfl
      · exact absurd (q ▸ List.mem_map.mpr ⟨p, h, rfl⟩) hc.1
    · rw [decide_eq_false q]
      rcases List.mem_cons.mp h with rfl | h
      · exact absurd rfl q
      · exact ih hc.2 h
theorem look_iff {l : IL} {k v : Int} (hn : (keys l).Nodup) : look l k = some v ↔ (k, v) ∈ l := by
  constructor
  · intro h
    unfold look at h
    cases e : l.find? fun p => decide (p.1 = k) with
    | none => rw [e] at h; cases h
    | some p =>
      rw [e] at h
      have h1 : p.1 = k := of_decide_eq_true (List.find?_some (p := fun p : Int × Int => decide (p.1 = k)) e)
      have h2 : p.2 = v := Option.some.inj h
      rw [← h1, ← h2]
      exact List.mem_of_find?_eq_some e
  · exact fun h => look_mem (p := (k, v)) hn h
structure Sim (s1 s2 : Lv) : Prop where
  pl : s1.place = s2.place
  mn : s1.many = s2.many
  lv : s1.level = s2.level
  hd : s1.head = s2.head
  sp : ∀ n, look s1.sp n = look s2.sp n
  kp : ∀ n, look s1.kp n = look s2.kp n
theorem Sim.refl (s : Lv) : Sim s s := ⟨rfl, rfl, rfl, rfl, fun _ => rfl, fun _ => rfl⟩
theorem same_mem {l1 l2 : IL} (n1 : (keys l1).Nodup) (n2 : (keys l2).Nodup) (h : ∀ n, look l1 n = look l2 n) (p : Int × Int) : p ∈ l1 ↔ p ∈ l2 := by
  rw [← look_iff (k := p.1) (v := p.2) n1, ← look_iff (k := p.1) (v := p.2) n2, h]
theorem same_keys {l1 l2 : IL} (h : ∀ n, look l1 n = look l2 n) (x : Int) : x ∈ keys l1 ↔ x ∈ keys l2 := by
  rw [mem_keys_look, mem_keys_look, h]
theorem Sim.told {s1 s2 : Lv} (h : Sim s1 s2) (o1 : s1.Ok) (o2 : s2.Ok) : s1.told = s2.told := by
  unfold Lv.told
  have e : srt (keys s1.sp) = srt (keys s2.sp) := srt_eq ((srt_perm _).trans ((List.perm_ext_iff_of_nodup o1.sn o2.sn).mpr (same_keys h.sp))) (srt_pair _)
  rw [e]
  refine List.filter_congr fun x _ => ?_
  rw [decide_eq_decide.mpr (same_keys h.kp x)]
theorem look_forget {s : Lv} (o : s.Ok) (t q n : Int) : look (s.forget t q).kp n = if t - q ≤ (look s.sp n).getD 0 then look s.kp n else none := by
  have on := (o.forget t q).kn
  apply Option.ext
  intro v
  rw [look_iff on]
  constructor
  · intro h
    obtain ⟨h1, h2⟩ := List.mem_filter.mp (show (n, v) ∈ s.kp.filter (s.fresh t q) from h)
    rw [if_pos (of_decide_eq_true h2)]
    exact (look_iff o.kn).mpr h1
  · intro h
    by_cases c : t - q ≤ (look s.sp n).getD 0
    · rw [if_pos c] at h
      exact List.mem_filter.mpr ⟨(look_iff o.kn).mp h, decide_eq_true c⟩
    · rw [if_neg c] at h
      cases h
theorem Sim.forget {s1 s2 : Lv} (h : Sim s1 s2) (o1 : s1.Ok) (o2 : s2.Ok) (t q : Int) : Sim (s1.forget t q) (s2.forget t q) :=
  ⟨h.pl, h.mn, h.lv, h.hd, h.sp, fun n => by rw [look_forget o1, look_forget o2, h.sp, h.kp]⟩
theorem least_eq {a y : Int × Int} (h1 : lessP a y = false) (h2 : lessP y a = false) : a = y := by
  have h1 := of_decide_eq_false h1
  have h2 := of_decide_eq_false h2
  exact Prod.ext (by omega) (by omega)
theorem Sim.find {s1 s2 : Lv} (h : Sim s1 s2) (o1 : s1.Ok) (o2 : s2.Ok) : Sim s1.find s2.find := by
  have hm := same_mem o1.kn o2.kn h.kp
  unfold Lv.find
  cases e1 : s1.kp with
  | nil =>
    cases e2 : s2.kp with
    | nil =>
      have hk := h.kp
      rw [e1, e2] at hk
      exact ⟨h.pl, h.mn, h.mn, rfl, h.sp, hk⟩
    | cons p ps =>
      have := (hm p).mpr (by rw [e2]; exact List.mem_cons_self)
      rw [e1] at this
      cases this
  | cons p1 ps1 =>
    cases e2 : s2.kp with
    | nil =>
      have := (hm p1).mp (by rw [e1]; exact List.mem_cons_self)
      rw [e2] at this
      cases this
    | cons p2 ps2 =>
      have eb : best p1 ps1 = best p2 ps2 := least_eq (best_least p1 ps1 _ (by rw [← e1]; exact (hm _).mpr (by rw [e2]; exact best_mem p2 ps2))) (best_least p2 ps2 _ (by rw [← e2]; exact (hm _).mp (by rw [e1]; exact best_mem p1 ps1)))
      have hk := h.kp
      rw [e1, e2] at hk
      dsimp only
      rw [eb, h.mn]
      split
      · exact ⟨h.pl, rfl, rfl, rfl, h.sp, hk⟩
      · exact ⟨h.pl, rfl, rfl, rfl, h.sp, hk⟩
theorem Sim.slot {s1 s2 : Lv} (h : Sim s1 s2) (o1 : s1.Ok) (o2 : s2.Ok) (t q : Int) : Sim (s1.slot t q) (s2.slot t q) := by
  have f := h.forget o1 o2 t q
  unfold Lv.slot
  rw [h.pl]
  split
  · exact f
  · exact f.find (o1.forget t q) (o2.forget t q)
structure Hrd (f : Int → Int → Int) (s s' : Lv) (R : List (Int × Int × Int)) : Prop where
  sp : ∀ n, look s'.sp n = look s.sp n ∨ ∃ l t, (n, l, t) ∈ R ∧ look s'.sp n = some t
  up : ∀ n u, look s.sp n = some u → ∃ v, look s'.sp n = some v ∧ u ≤ v
  al : ∀ n l t, (n, l, t) ∈ R → ∃ v, look s'.sp n = some v ∧ t ≤ v
  k0 : ∀ n, look s'.sp n = look s.sp n → look s'.kp n = look s.kp n
  k1 : ∀ n u, look s'.sp n = some u → look s.sp n ≠ some u → look s'.kp n = some (f n u)
  pl : s'.place = s.place
  mn : s'.many = s.many
  lv : s'.level = s.level
  hd : s'.head = s.head
theorem Hrd.nil (f : Int → Int → Int) (s : Lv) : Hrd f s s [] := ⟨fun _ => .inl rfl, fun _ u h => ⟨u, h, Int.le_refl _⟩, fun _ _ _ h => (by cases h), fun _ _ => rfl, fun _ _ h k => absurd h k, rfl, rfl, rfl, rfl⟩
theorem Hrd.snoc {f : Int → Int → Int} {s s' : Lv} {R : List (Int × Int × Int)} {n l t : Int} (h : Hrd f s s' R) (hl : l = f n t) : Hrd f s (s'.hears n l t) (R ++ [(n, l, t)]) := by
  unfold Lv.hears
  by_cases ho : s'.old n t = true
  · rw [if_pos ho]
    obtain ⟨u, hu, htu⟩ : ∃ u, look s'.sp n = some u ∧ t ≤ u := by
      unfold Lv.old at ho
      cases e : look s'.sp n with
      | none => rw [e] at ho; cases ho
      | some u => rw [e] at ho; exact ⟨u, rfl, of_decide_eq_true ho⟩
    refine ⟨fun x => (h.sp x).imp id fun ⟨l', t', h1, h2⟩ => ⟨l', t', List.mem_append_left _ h1, h2⟩, h.up, fun x l' t' hm => ?_, h.k0, h.k1, h.pl, h.mn, h.lv, h.hd⟩
    rcases List.mem_append.mp hm with hm | hm
    · exact h.al x l' t' hm
    · have := List.mem_singleton.mp hm
      cases this
      exact ⟨u, hu, htu⟩
  · rw [if_neg ho]
    have hnew : ∀ u, look s'.sp n = some u → u < t := fun u hu => by
      unfold Lv.old at ho
      rw [hu] at ho
      have : ¬ t ≤ u := fun z => ho (decide_eq_true z)
      omega
    have e1 : ∀ x, look (put s'.sp n t) x = if x = n then some t else look s'.sp x := fun x => look_put _ _ _ _
    have e2 : ∀ x, look (put s'.kp n l) x = if x = n then some l else look s'.kp x := fun x => look_put _ _ _ _
    refine ⟨fun x => ?_, fun x u hu => ?_, fun x l' t' hm => ?_, fun x hx => ?_, fun x u hx hnx => ?_, h.pl, h.mn, h.lv, h.hd⟩
    · show look (put s'.sp n t) x = _ ∨ _
      rw [e1]
      by_cases c : x = n
      · rw [if_pos c]
        exact .inr ⟨l, t, List.mem_append_right _ (by rw [c]; exact List.mem_singleton.mpr rfl), rfl⟩
      · rw [if_neg c]
        exact (h.sp x).imp id fun ⟨l', t', h1, h2⟩ => ⟨l', t', List.mem_append_left _ h1, h2⟩
    · show ∃ v, look (put s'.sp n t) x = some v ∧ _
      rw [e1]
      obtain ⟨v, hv, huv⟩ := h.up x u hu
      by_cases c : x = n
      · rw [if_pos c]
        have := hnew v (c ▸ hv)
        exact ⟨t, rfl, by omega⟩
      · rw [if_neg c]
        exact ⟨v, hv, huv⟩
    · show ∃ v, look (put s'.sp n t) x = some v ∧ _
      rw [e1]
      rcases List.mem_append.mp hm with hm | hm
      · obtain ⟨v, hv, htv⟩ := h.al x l' t' hm
        by_cases c : x = n
        · rw [if_pos c]
          have := hnew v (c ▸ hv)
          exact ⟨t, rfl, by omega⟩
        · rw [if_neg c]
          exact ⟨v, hv, htv⟩
      · have := List.mem_singleton.mp hm
        cases this
        rw [if_pos rfl]
        exact ⟨t, rfl, Int.le_refl _⟩
    · have hx : look (put s'.sp n t) x = look s.sp x := hx
      show look (put s'.kp n l) x = look s.kp x
      rw [e1] at hx
      rw [e2]
      by_cases c : x = n
      · rw [if_pos c] at hx
        obtain ⟨v, hv, huv⟩ := h.up x t hx.symm
        have := hnew v (c ▸ hv)
        omega
      · rw [if_neg c] at hx ⊢
        exact h.k0 x hx
    · have hx : look (put s'.sp n t) x = some u := hx
      show look (put s'.kp n l) x = some (f x u)
      rw [e1] at hx
      rw [e2]
      by_cases c : x = n
      · rw [if_pos c] at hx ⊢
        cases hx
        rw [hl, c]
      · rw [if_neg c] at hx ⊢
        exact h.k1 x u hx hnx
theorem Hrd.sim {f : Int → Int → Int} {s1 s2 s1' s2' : Lv} {R1 R2 : List (Int × Int × Int)} (h1 : Hrd f s1 s1' R1) (h2 : Hrd f s2 s2' R2) (h : Sim s1 s2) (hR : ∀ r, r ∈ R1 ↔ r ∈ R2) : Sim s1' s2' := by
  have esp : ∀ n, look s1'.sp n = look s2'.sp n := by
    have le : ∀ {s1 s2 s1' s2' : Lv} {R1 R2 : List (Int × Int × Int)}, Hrd f s1 s1' R1 → Hrd f s2 s2' R2 → Sim s1 s2 → (∀ r, r ∈ R1 → r ∈ R2) → ∀ n u, look s1'.sp n = some u → ∃ v, look s2'.sp n = some v ∧ u ≤ v := by
      intro s1 s2 s1' s2' R1 R2 h1 h2 h hR n u hu
      rcases h1.sp n with e | ⟨l, t, hm, e⟩
      · rw [hu] at e
        exact h2.up n u (by rw [← h.sp]; exact e.symm)
      · rw [hu] at e
        cases e
        exact h2.al n l u (hR _ hm)
    intro n
    have hs : Sim s2 s1 := ⟨h.pl.symm, h.mn.symm, h.lv.symm, h.hd.symm, fun n => (h.sp n).symm, fun n => (h.kp n).symm⟩
    cases e1 : look s1'.sp n with
    | some u =>
      obtain ⟨v, hv, huv⟩ := le h1 h2 h (fun r => (hR r).mp) n u e1
      obtain ⟨w, hw, hvw⟩ := le h2 h1 hs (fun r => (hR r).mpr) n v hv
      rw [e1] at hw
      cases hw
      rw [hv, show v = u from by omega]
    | none =>
      cases e2 : look s2'.sp n with
      | none => rfl
      | some v =>
        obtain ⟨w, hw, _⟩ := le h2 h1 hs (fun r => (hR r).mpr) n v e2
        rw [e1] at hw
        cases hw
  refine ⟨by rw [h1.pl, h2.pl, h.pl], by rw [h1.mn, h2.mn, h.mn], by rw [h1.lv, h2.lv, h.lv], by rw [h1.hd, h2.hd, h.hd], esp, fun n => ?_⟩
  by_cases c : look s1'.sp n = look s1.sp n
  · rw [h1.k0 n c, h2.k0 n (by rw [← esp, c, h.sp]), h.kp]
  · cases e : look s1'.sp n with
    | none =>
      cases e0 : look s1.sp n with
      | none => exact absurd (by rw [e, e0]) c
      | some u =>
        obtain ⟨v, hv, _⟩ := h1.up n u e0
        rw [e] at hv
        cases hv
    | some u =>
      rw [h1.k1 n u e (fun z => c (by rw [e, z])), h2.k1 n u (by rw [← esp, e]) (fun z => c (by rw [e, h.sp, z]))]
end K48
end
section
set_option Elab.async false
set_option linter.all false
set_option maxRecDepth 100000
set_option maxHeartbeats 4000000
namespace K48
local macro_rules | `(tactic| walk_at "pos") => `(tactic| (show (0 : Int) < _; first | decide | omega))
open PySem PySem.Spec PyProof.Rows L2 Lf 
open Evl
local macro_rules | `(tactic| walk_at "lk") => `(tactic| (simp (disch := decide +kernel) only [lk_hit, lk_miss, lk_nil]))
local macro_rules | `(tactic| walk_at "pf") => `(tactic| (simp (disch := decide +kernel) only [pf_hit, pf_miss, pf_nil]))
def rowV (r : Int × Int × Int) : List V := [.int r.1, .int r.2.1, .int r.2.2]
def IsRow (H : Hp) (v : V) (r : Int × Int × Int) : Prop := ∃ u, v = .ref u ∧ H u = some (.tup (rowV r))
theorem IsRow.dp {K : PySem.W.Frag} {H : Hp} {v : V} {r : Int × Int × Int} (h : IsRow H v r) : Dp K H v (.tuple ([r.1, r.2.1, r.2.2].map PyData.int)) := by
  obtain ⟨u, rfl, hu⟩ := h
  exact .tup (st_of hu) (.cons (.int _) (.cons (.int _) (.cons (.int _) .nil)))
theorem dps_rows {K : PySem.W.Frag} {H : Hp} : ∀ {vs : List V}, (∀ v ∈ vs, ∃ r, IsRow H v r) → ∃ ds, DpAll K H vs ds ∧ ds.length = vs.length ∧ ∀ d ∈ ds, Wm.Sh 1 d
  | [], _ => ⟨[], .nil, rfl, fun d hd => by cases hd⟩
  | v :: vs, h => by
    obtain ⟨r, hr⟩ := h v List.mem_cons_self
    obtain ⟨ds, h1, h2, h3⟩ := dps_rows fun u hu => h u (List.mem_cons_of_mem _ hu)
    refine ⟨_ :: ds, .cons hr.dp h1, by rw [List.length_cons, List.length_cons, h2], fun d hd => ?_⟩
    rcases List.mem_cons.mp hd with rfl | hd
    · exact sh_ints _
    · exact h3 d hd
/-- what may go: the bag's own cells and W -/
def Mv (b : Addr × Addr) (W : List Addr) (H H' : Hp) : Prop := Bag H' b ∧ Fr (b.1 :: W) H H'
theorem Mv.of {b : Addr × Addr} {W : List Addr} {H H' : Hp} (s : Step b H H') : Mv b W H H' := ⟨s.1, fun a o ha h => s.at (fun z => ha (by simp [z])) h⟩
theorem Mv.trans {b : Addr × Addr} {W : List Addr} {H H1 H2 : Hp} (h : Mv b W H H1) (h' : Mv b W H1 H2) : Mv b W H H2 := ⟨h'.1, h.2.trans h'.2⟩
structure SpAt (H : Hp) (y : Addr) (m : Int) (S : List (List L2.Key × V)) : Prop where
  at_ : H y = some (.dT S)
  ok : ∀ k v, valV S k = some v → ∃ l, v = .int l ∧ 0 ≤ l ∧ l ≤ m
def spSaid : Sp := fun vs H Q _ => ∃ (b : Addr × Addr) (x y : Addr) (m t : Int) (os : List Int) (S : List (List L2.Key × V)), vs = [.ref b.1, .ref x, .int m, .int t, .ref y] ∧ Bag H b ∧ H x = some (.lst (os.map V.int)) ∧ x ≠ b.1 ∧ (1 ≤ os.length ∧ os.length ≤ 10) ∧ (∀ o ∈ os, 0 ≤ o ∧ o < 10) ∧ (2 ≤ m ∧ m ≤ 10) ∧ SpAt H y m S ∧ S.length ≤ 1000 ∧
  ∀ (H' : Hp) (u : Addr) (n l w : Int) (S' : List (List L2.Key × V)), Mv b [y] H H' → SpAt H' y m S' → S'.length ≤ S.length + 1 → (∀ k v, valV S k = some v → valV S' k = some v) → valV S' [.inl n, .inl w] = some (.int l) → (0 ≤ n ∧ n < 10) → (0 ≤ l ∧ l ≤ m) → H u = none → H' u = some (.tup (rowV (n, l, w))) → Q (.ref u) H'
def spShuf : Sp := fun vs H Q _ => ∃ (b : Addr × Addr) (x : Addr) (xs : List V), vs = [.ref b.1, .ref x] ∧ Bag H b ∧ H x = some (.lst xs) ∧ x ≠ b.1 ∧ xs.length ≤ 20 ∧ (∀ v ∈ xs, ∃ r, IsRow H v r) ∧
  ∀ (H' : Hp) (q : Addr) (ys : List V), Step b H H' → H q = none → H' q = some (.lst ys) → ys.length ≤ 40 → (∀ v, v ∈ ys ↔ v ∈ xs) → Q (.ref q) H'
theorem bag_not {b : Addr × Addr} {H : Hp} {y : Addr} {u : HO} (h : Bag H b) (hy : H y = some u) (hu : ∀ xs, u ≠ .lst xs) : y ≠ b.1 ∧ y ≠ b.2 := by
  obtain ⟨x, y', z, ns, h1, h2, _⟩ := h
  exact ⟨fun e => by rw [e, h1] at hy; exact hu _ (Option.some.inj hy).symm, fun e => by rw [e, h2] at hy; exact hu _ (Option.some.inj hy).symm⟩
theorem bag_upd {b : Addr × Addr} {H : Hp} {y : Addr} {u : HO} (h : Bag H b) (n : y ≠ b.1 ∧ y ≠ b.2) : Bag (upd H y u) b := by
  obtain ⟨x, y', z, ns, h1, h2, h3⟩ := h
  exact ⟨x, y', z, ns, by rw [upd_ne n.1.symm]; exact h1, by rw [upd_ne n.2.symm]; exact h2, h3⟩
section
variable {P : Program} {w : World} {K : PySem.W.Frag} {mg : Str → Option Value} {base : Heap} {CLevels : Addr} (T : Top K mg CLevels)
include T
theorem c_lw_said : Cal P w K mg base CX0 2 "_law_said" spSaid := by
  refine T.d_lw_said.cal sc_lw_said (fun vs H Q E h => ?_) (fun f cdv A outer s H vs Q E g hr h => ?_)
  · obtain ⟨b, x, y, m, t, os, S, rfl, _⟩ := h
    rfl
  · obtain ⟨b, x, y, m, t, os, S, rfl, hb, hx, nx, hos, ho, hm, hS, hlen, k⟩ := h
    refine ⟨_, (pss_cons (ps_set (i := 5) sc_lw_said.nd rfl (Or.inl rfl) (pe_ix (kix (K := K) (r := rIxL) ix_list rfl) (pv 1) (ec (c_lw_take T) g hr (by decide) pass0 (by rfl) (pa_cons (pv 0) (pa_cons (pe_callB (k_len (K := K) rfl) (by rfl) T.n_len PySem.boot_len (pa_cons (pv 1) pa_nil)) pa_nil))) (fun _ _ => rfl)))
    (pss_cons (ps_set (i := 6) sc_lw_said.nd rfl (Or.inl rfl) (pe_callB (call_max2 rfl) (by rfl) T.n_max (by decide +kernel) (pa_cons pe_int (pa_cons (pe_op op_sub (pv 3) (pe_ix (kix (K := K) (r := rIxL) ix_list rfl) (pe_lst (pa_cons pe_int (pa_cons (ec (c_lw_take T) g hr (by decide) pass0 (by rfl) (pa_cons (pv 0) (pa_cons pe_int pa_nil))) (pa_cons (ec (c_lw_take T) g hr (by decide) pass0 (by rfl) (pa_cons (pv 0) (pa_cons pe_int pa_nil))) pa_nil)))) (ec (c_lw_take T) g hr (by decide) pass0 (by rfl) (pa_cons (pv 0) (pa_cons pe_int pa_nil))) (fun _ _ => rfl))) pa_nil))))
    (pss_cons (ps_set (i := 7) sc_lw_said.nd rfl (Or.inl rfl) (k_bm (K := K) rfl PySem.F.plainAttrs_dict PySem.F.slot_dict_setdefault PySem.F.type_dict_setdefault (mt_setdT (u2 hr)) (pv 4) (pa_cons (pe_tup (pa_cons (pv 5) (pa_cons (pv 6) pa_nil))) (pa_cons (ec (c_lw_take T) g hr (by decide) pass0 (by rfl) (pa_cons (pv 0) (pa_cons (pe_op op_add (pv 2) pe_int) pa_nil))) pa_nil))))
    (pss_one (ps_ret (pe_tup (pa_cons (pv 5) (pa_cons (pv 7) (pa_cons (pv 6) pa_nil))))))))), ?_⟩
    refine q_dri (p := fun x => 0 ≤ x ∧ x < 10) hb (dri_ixL rfl hx nx (dri_take rfl (dri_lenL rfl hx nx ⟨⟨by rw [List.length_map]; omega, by rw [List.length_map]; omega⟩, fun v v0 v1 => ⟨v0, by rw [List.length_map] at v1; exact v1⟩⟩)) ho) fun one H1 s1 hone => ?_
    refine q_dri (p := fun _ => True) s1.1 (dri_max2 (p := fun _ => True) (q := fun _ => True) (dri_c trivial) (dri_I0 (p := fun _ => True) (q := fun _ => True) (dri_var rfl trivial) (dri_pick (n := 3) (p := fun _ => True) (dra_cons (DrI.dr (dri_c trivial)) (dra_cons (DrI.dr ((dri_tk rfl (by decide) (by decide)).imp fun _ _ => trivial)) (dra_cons (DrI.dr ((dri_tk rfl (by decide) (by decide)).imp fun _ _ => trivial)) (dra_nil rfl)))) (dri_tk rfl (by decide) (by decide)) (by decide)) (by intros; trivial)) (by intros; trivial)) fun back H2 s2 _ => ?_
    have s12 := s1.trans s2
    have ny := bag_not hb hS.at_ (fun _ z => nomatch z)
    have hy2 := s12.at ny.1 hS.at_
    refine ⟨_, rfl, .inr (.inr (.inl ⟨rfl, .inr ⟨_, hy2⟩⟩)), _, rfl, _, rfl, (by show 2 ≤ sizeLine; decide), fun ku hku => ?_⟩
    have s3 : Step b H (upd H2 ku (.tup [.int one, .int back])) := s12.trans (.pure s2.1 (Ex.new hku))
    have hk3 : (upd H2 ku (.tup [.int one, .int back])) ku = some (.tup [.int one, .int back]) := upd_same
    have hy3 := Ex.new (o := .tup [.int one, .int back]) hku _ _ hy2
    generalize upd H2 ku (.tup [.int one, .int back]) = H3 at s3 hk3 hy3 ⊢
    refine ⟨_, rfl, _, rfl, m, 1, rfl, rfl, b, m + 1, rfl, s3.1, ⟨by omega, by omega⟩, fun l H4 l0 l1 b4 d4 => ?_⟩
    have s4 : Step b H H4 := s3.trans (.draw b4 d4)
    have hy4 : H4 y = some (.dT S) := by rw [d4 y ny.1]; exact hy3
    have nk : ku ≠ b.1 := (bag_not s3.1 hk3 (fun _ z => nomatch z)).1
    have hk4 : H4 ku = some (.tup [.int one, .int back]) := by rw [d4 ku nk]; exact hk3
    refine ⟨y, S, [.inl one, .inl back], ku, .int l, rfl, rfl, hy4, hk4, Nat.lt_of_le_of_lt hlen (by decide), fun v hv => ?_, fun hn => ?_⟩
    · obtain ⟨l', rfl, g0, g1⟩ := hS.ok _ _ hv
      refine ⟨_, rfl, _, rfl, _, rfl, (by show 3 ≤ sizeLine; decide), fun u hu => k _ u one l' back S ((Mv.of s4).trans (Mv.of (.pure s4.1 (Ex.new hu)))) ⟨Ex.new hu _ _ hy4, hS.ok⟩ (Nat.le_succ _) (fun _ _ h => h) hv hone ⟨g0, g1⟩ (s4.free hu) upd_same⟩
    · have b5 : Bag (upd H4 y (.dT (putK S [.inl one, .inl back] (.int l)))) b := bag_upd s4.1 ny
      have f5 : Mv b [y] H (upd H4 y (.dT (putK S [.inl one, .inl back] (.int l)))) := ⟨b5, (Mv.of (W := [y]) s4).2.trans fun a o ha h => by rw [upd_ne (fun z => ha (by simp [z]))]; exact h⟩
      have hy5 : (upd H4 y (.dT (putK S [.inl one, .inl back] (.int l)))) y = some (.dT (putK S [.inl one, .inl back] (.int l))) := upd_same
      have un : ∀ {u}, (upd H4 y (.dT (putK S [.inl one, .inl back] (.int l)))) u = none → H4 u = none := fun {u} hu => by
        have : u ≠ y := fun z => by rw [z, hy5] at hu; cases hu
        rw [upd_ne this] at hu
        exact hu
      generalize upd H4 y (.dT (putK S [.inl one, .inl back] (.int l))) = H5 at b5 f5 hy5 un ⊢
      refine ⟨_, rfl, _, rfl, _, rfl, (by show 3 ≤ sizeLine; decide), fun u hu => k _ u one l back _ (f5.trans (Mv.of (.pure b5 (Ex.new hu)))) ⟨Ex.new hu _ _ hy5, fun k v hv => ?_⟩ (length_putK _ _ _) (fun k v hv => ?_) ?_ hone ⟨l0, by omega⟩ (s4.free (un hu)) upd_same⟩
      · rw [valV_put] at hv
        split at hv
        · cases hv
          exact ⟨l, rfl, l0, by omega⟩
        · exact hS.ok k v hv
      · rw [valV_put, if_neg (fun z => by rw [z, hn] at hv; cases hv)]
        exact hv
      · rw [valV_put, if_pos rfl]
theorem c_lw_shuffled : Cal P w K mg base CX0 2 "_law_shuffled" spShuf := by
  refine T.d_lw_shuffled.cal sc_lw_shuffled (fun vs H Q E h => ?_) (fun f cdv A outer s H vs Q E g hr h => ?_)
  · obtain ⟨b, x, xs, rfl, _⟩ := h
    rfl
  · obtain ⟨b, x, xs, rfl, hb, hx, nx, hl, hrow, k⟩ := h
    refine ⟨_, (pss_cons (ps_set (i := 2) sc_lw_shuffled.nd rfl (Or.inl rfl) (pe_op op_cat (pe_callTy (k_lst (K := K) rfl) (by rfl) T.n_list (by decide +kernel) (pa_cons (pv 1) pa_nil)) (pe_lc (own := [("_law_row", 4)]) (g := (gName 4)) (by rfl) sc_lw_shuffled.nd (k_list (K := K) rfl (pv 1)) (blkOk_by (own := [("_law_row", 4)]) (N := ns_lw_shuffled) (sc := defScope s_lw_shuffled) (by decide +kernel)) (fun _ _ _ _ _ => (pg_name (i := 4) sc_lw_shuffled.nd rfl (Or.inl rfl))) (fun _ _ _ _ _ => pts_one (pt_cmpR op_eq (ec (c_lw_take T) g hr (by decide) pass0 (by rfl) (pa_cons (pv 0) (pa_cons pe_int pa_nil))) pe_int (nomark _))) (fun _ _ _ _ _ => (pv 4)))))
    (pss_cons (ps_set (i := 3) sc_lw_shuffled.nd rfl (Or.inl rfl) (pe_lst pa_nil))
    (pss_cons (ps_while PassesOwn.never (pt_cmpR (kop (K := K) (r := rNeD) (op_neD hr.units) rfl) (pv 2) (pe_lst pa_nil) (nomark _)) (pss_one (ps_expr (k_bm (K := K) rfl PySem.F.plainAttrs_list PySem.F.slot_list_append PySem.F.type_list_append mt_append (pv 3) (pa_cons (k_bm (K := K) rfl PySem.F.plainAttrs_list PySem.F.slot_list_pop PySem.F.type_list_pop mt_popAt (pv 2) (pa_cons (ec (c_lw_take T) g hr (by decide) pass0 (by rfl) (pa_cons (pv 0) (pa_cons (pe_callB (k_len (K := K) rfl) (by rfl) T.n_len PySem.boot_len (pa_cons (pv 2) pa_nil)) pa_nil))) pa_nil)) pa_nil)))))
    (pss_one (ps_ret (pv 3)))))), ?_⟩
    refine ⟨_, rfl, x, xs, rfl, .inl (sq_of hx), fun c hc => ?_⟩
    have s1 : Step b H (upd H c (.lst xs)) := .pure hb (Ex.new hc)
    have hc1 : (upd H c (.lst xs)) c = some (.lst xs) := upd_same
    have hx1 := Ex.new (o := .lst xs) hc _ _ hx
    generalize upd H c (.lst xs) = H1 at s1 hc1 hx1 ⊢
    have ncb : c ≠ b.1 := hb.ne hc
    refine ⟨_, rfl, x, rfl, ⟨_, sq_of hx1⟩, fun D hD => lc_list (xs := xs) (fun i H' => ∃ ys, H' D = some (.lst ys) ∧ (∀ v ∈ ys, v ∈ xs) ∧ ys.length ≤ i ∧ Step b H1 H') ⟨[], upd_same, (fun v hv => by cases hv), Nat.le_refl _, .pure s1.1 (Ex.new hD)⟩ (fun i H' _ ⟨ys, _, _, _, s⟩ => sq_of (s.at nx hx1)) ?_ ?_⟩
    · rintro i v H' hv ⟨ys, h1, h2, h3, s2⟩
      refine ⟨rfl, tany_dri (c := 0) s2.1 (dri_tk rfl (by decide) (by decide)) _ fun c H3 s3 => ?_⟩
      have h4 := s3.at (s1.1.ne hD) h1
      have s23 := s2.trans s3
      cases c with
      | false => exact ⟨ys, h4, h2, Nat.le_succ_of_le h3, s23⟩
      | true =>
        have := (List.getElem?_eq_some_iff.mp hv).1
        refine (if_pos rfl).mpr ⟨_, rfl, ys, h4, Nat.lt_of_le_of_lt (Nat.le_trans h3 (by omega : i ≤ 20)) (by decide), ys ++ [v], upd_same, fun z hz => ?_, by rw [List.length_append]; show ys.length + 1 ≤ i + 1; omega, s23.put s1.1 hD⟩
        rcases List.mem_append.mp hz with hz | hz
        · exact h2 z hz
        · rw [List.mem_singleton.mp hz]
          exact List.mem_of_getElem? hv
    · rintro H2 ⟨ys, h1, h2, h3, s2⟩
      have s02 := s1.trans s2
      have hc2 := s2.at ncb hc1
      refine ⟨c, D, xs, ys, rfl, rfl, hc2, h1, Nat.le_trans (show xs.length + ys.length ≤ 40 from by omega) (by decide), fun p hp => ⟨by show 0 ≤ sizeLine; decide, fun q hq => ?_⟩⟩
      have p0 : H p = none := s02.free hp
      have e3 : Ex H2 (upd H2 p (.lst (xs ++ ys))) := Ex.new hp
      have hp3 : (upd H2 p (.lst (xs ++ ys))) p = some (.lst (xs ++ ys)) := upd_same
      generalize upd H2 p (.lst (xs ++ ys)) = H3 at e3 hp3 hq ⊢
      have s3 : Step b H H3 := s02.trans (.pure s2.1 e3)
      have q0 : H q = none := s3.free hq
      have pq : p ≠ q := fun z => by rw [← z, hp3] at hq; cases hq
      refine q_while (fun μ σ' H' => ∃ L1 L2, σ' = [some (.ref b.1), some (.ref x), some (.ref p), some (.ref q), none] ∧ Step b H H' ∧ H' p = some (.lst L1) ∧ H' q = some (.lst L2) ∧ (∀ v, v ∈ xs ↔ v ∈ L1 ∨ v ∈ L2) ∧ L1.length + L2.length ≤ 40 ∧ μ = L1.length) (xs ++ ys).length
        ⟨xs ++ ys, [], rfl, s3.trans (.pure s3.1 (Ex.new hq)), Ex.new hq _ _ hp3, upd_same, fun v => ⟨fun hv => .inl (List.mem_append_left _ hv), fun hv => hv.elim (fun hv => (List.mem_append.mp hv).elim id (h2 v)) (fun hv => by cases hv)⟩, by rw [List.length_append]; show _ + _ + 0 ≤ 40; omega, rfl⟩ ?_
      rintro μ σ' H' ⟨L1, L2, rfl, s4, h1', h2', hv, hl', rfl⟩
      have hrow' : ∀ v ∈ L1, ∃ r, IsRow H' v r := fun v hm => by
        obtain ⟨r, u, rfl, hu⟩ := hrow v ((hv v).mpr (.inl hm))
        exact ⟨r, u, rfl, s4.at (bag_not hb hu (fun _ z => nomatch z)).1 hu⟩
      obtain ⟨ds, hds, hdl, hsh⟩ := dps_rows (K := K) hrow'
      refine ⟨!PyData.eqv (.list ds) (.list []), et_test (ev_opL (ev_var rfl) (el_lst ea_nil (Nat.zero_le _)) fun p' H4 hp' e4 => rv_neD2 (.lst (sq_of (e4 _ _ h1')) (dps_ex e4 _ _ hds)) (.lst (sq_of hp') .nil) (Wm.Sh.list (n := 1) hsh) (Wm.Sh.list (n := 1) fun d hd => by cases hd) (by decide) (by decide)), fun hb' H4 e4 => ?_, fun hb' H4 e4 => ?_⟩
      · have hne : L1 ≠ [] := fun z => by
          rw [z] at hdl
          have : ds = [] := List.eq_nil_of_length_eq_zero hdl
          rw [this] at hb'
          exact absurd hb' (by decide)
        have hpos : 0 < L1.length := List.length_pos_iff.mpr hne
        have b4 := s4.1.ex e4
        have h14 := e4 _ _ h1'
        have h24 := e4 _ _ h2'
        refine ⟨fun σ2 H2 => ∃ L1' L2', σ2 = [some (.ref b.1), some (.ref x), some (.ref p), some (.ref q), none] ∧ Step b H H2 ∧ H2 p = some (.lst L1') ∧ H2 q = some (.lst L2') ∧ (∀ v, v ∈ xs ↔ v ∈ L1' ∨ v ∈ L2') ∧ L1'.length + L2'.length ≤ 40 ∧ L1'.length + 1 = L1.length, fun σ2 H2 ⟨L1', L2', g1, g2, g3, g4, g5, g6, g7⟩ => ⟨L1'.length, by omega, L1', L2', g1, g2, g3, g4, g5, g6, rfl⟩, ?_⟩
        refine ⟨_, rfl, .inl ⟨rfl, _, sq_of h24⟩, _, rfl, .inl ⟨rfl, _, sq_of h14⟩, _, rfl, _, rfl, p, _, rfl, .inl (sq_of h14), b, _, rfl, b4, ⟨by omega, by omega⟩, fun i H5 i0 i1 b5 d5 => ?_⟩
        obtain ⟨i, rfl⟩ := Int.eq_ofNat_of_zero_le i0
        have hi : i < L1.length := by omega
        have np : p ≠ b.1 := hb.ne p0
        have nq : q ≠ b.1 := hb.ne q0
        have s5 : Step b H H5 := (s4.trans (.pure s4.1 e4)).trans (.draw b5 d5)
        have h15 : H5 p = some (.lst L1) := by rw [d5 p np]; exact h14
        have h25 : H5 q = some (.lst L2) := by rw [d5 q nq]; exact h24
        refine ⟨p, L1, (i : Int), i, L1[i], rfl, rfl, h15, by omega, by omega, ?_, List.getElem?_eq_getElem hi, q, L2, L1[i], rfl, rfl, by rw [upd_ne pq.symm]; exact h25, Nat.lt_of_le_of_lt (show L2.length ≤ 40 from by omega) (by decide), L1.eraseIdx i, L2 ++ [L1[i]], rfl, (s5.put hb p0).put hb q0, by rw [upd_ne pq]; exact upd_same, upd_same, fun v => ?_, ?_, ?_⟩
        · exact (PySem.StrLaws.seqIndex_nonneg (i := (i : Int)) (n := L1.length) (by omega) (by omega)).trans rfl
        · rw [hv v, List.mem_eraseIdx_iff_getElem?, List.mem_append, List.mem_singleton]
          constructor
          · rintro (h | h)
            · obtain ⟨j, hj⟩ := List.getElem?_of_mem h
              by_cases c : j = i
              · subst c
                rw [List.getElem?_eq_getElem hi] at hj
                exact .inr (.inr (Option.some.inj hj).symm)
              · exact .inl ⟨j, c, hj⟩
            · exact .inr (.inl h)
          · rintro (⟨j, _, hj⟩ | h | h)
            · exact .inl (List.mem_of_getElem? hj)
            · exact .inr h
            · rw [h]
              exact .inl (List.getElem_mem hi)
        · rw [List.length_eraseIdx_of_lt hi, List.length_append]
          show _ - 1 + (_ + 1) ≤ 40
          omega
        · rw [List.length_eraseIdx_of_lt hi]
          omega
      · have hnil : L1 = [] := by
          cases L1 with
          | nil => rfl
          | cons a L =>
            cases ds with
            | nil => cases hdl
            | cons d ds => exact absurd hb' (by rw [show PyData.eqv (.list (d :: ds)) (.list []) = false from rfl]; decide)
        subst hnil
        exact s_ret (ev_var rfl) fun H5 e5 => k H5 q L2 (s4.trans (.pure s4.1 (e4.trans e5))) q0 (e5 _ _ (e4 _ _ h2')) (by simpa using hl') fun v => by rw [hv v]; simp
end
end K48
end
section
set_option Elab.async false
set_option linter.all false
set_option maxRecDepth 100000
set_option maxHeartbeats 4000000
namespace K48
local macro_rules | `(tactic| walk_at "pos") => `(tactic| (show (0 : Int) < _; first | decide | omega))
open PySem PySem.Spec PyProof.Rows L2 Lf 
open Evl
local macro_rules | `(tactic| walk_at "lk") => `(tactic| (simp (disch := decide +kernel) only [lk_hit, lk_miss, lk_nil]))
local macro_rules | `(tactic| walk_at "pf") => `(tactic| (simp (disch := decide +kernel) only [pf_hit, pf_miss, pf_nil]))
structure W48 (C : Addr) (b : Addr × Addr) (a4 a6 y : Addr) (os : List Int) (m : Int) (H : Hp) (p1 d11 d12 p2 d21 d22 : Addr) (s1 s2 : Lv) (S : List (List L2.Key × V)) : Prop where
  bag : Bag H b
  ho : H a4 = some (.lst (os.map V.int))
  h6 : H a6 = some (.lst [.ref p1, .ref p2])
  sp : SpAt H y m S
  l1 : LvAt C H p1 d11 d12 s1
  l2 : LvAt C H p2 d21 d22 s2
  np : p1 ≠ p2
  nd : d11 ≠ d21 ∧ d11 ≠ d22 ∧ d12 ≠ d21 ∧ d12 ≠ d22
  na : a4 ≠ b.1
  n6 : a6 ≠ b.1 ∧ a6 ≠ b.2
  n46 : a4 ≠ a6
  ny : y ≠ d11 ∧ y ≠ d12 ∧ y ≠ d21 ∧ y ≠ d22
section
variable {C : Addr} {b : Addr × Addr} {a4 a6 y : Addr} {os : List Int} {m : Int} {H H' : Hp} {p1 d11 d12 p2 d21 d22 : Addr} {s1 s2 s' : Lv} {S S' : List (List L2.Key × V)}
theorem W48.mv (h : W48 C b a4 a6 y os m H p1 d11 d12 p2 d21 d22 s1 s2 S) (f : Mv b [y] H H') (sp : SpAt H' y m S') : W48 C b a4 a6 y os m H' p1 d11 d12 p2 d21 d22 s1 s2 S' := by
  have hy := h.sp.at_
  have keep : ∀ {x u}, H x = some u → x ≠ b.1 → x ≠ y → H' x = some u := fun hx n1 n2 => f.2 _ _ (by simp; exact ⟨n1, n2⟩) hx
  have kl : ∀ {x xs}, H x = some (.lst xs) → x ≠ b.1 → H' x = some (.lst xs) := fun hx n => keep hx n (hne hx hy (fun z => nomatch z))
  have ki : ∀ {x C dx fs}, H x = some (.ins C dx fs) → H' x = some (.ins C dx fs) := fun hx => keep hx (bag_not h.bag hx (fun _ z => nomatch z)).1 (hne hx hy (fun z => nomatch z))
  have kd : ∀ {x kvs}, H x = some (.dK kvs) → H' x = some (.dK kvs) := fun hx => keep hx (bag_not h.bag hx (fun _ z => nomatch z)).1 (hne hx hy (fun z => nomatch z))
  obtain ⟨j1, hj1⟩ := h.l1.ins
  obtain ⟨j2, hj2⟩ := h.l2.ins
  exact ⟨f.1, kl h.ho h.na, kl h.h6 h.n6.1, sp, ⟨h.l1.ok, ⟨j1, ki hj1⟩, kd h.l1.h1, kd h.l1.h2, h.l1.ne⟩, ⟨h.l2.ok, ⟨j2, ki hj2⟩, kd h.l2.h1, kd h.l2.h2, h.l2.ne⟩, h.np, h.nd, h.na, h.n6, h.n46, h.ny⟩
theorem W48.step (h : W48 C b a4 a6 y os m H p1 d11 d12 p2 d21 d22 s1 s2 S) (s : Step b H H') : W48 C b a4 a6 y os m H' p1 d11 d12 p2 d21 d22 s1 s2 S :=
  h.mv (Mv.of s) ⟨s.at (bag_not h.bag h.sp.at_ (fun _ z => nomatch z)).1 h.sp.at_, h.sp.ok⟩
theorem W48.ex (h : W48 C b a4 a6 y os m H p1 d11 d12 p2 d21 d22 s1 s2 S) (e : Ex H H') : W48 C b a4 a6 y os m H' p1 d11 d12 p2 d21 d22 s1 s2 S := h.step (.pure h.bag e)
/-- a list of others is changed -/
theorem W48.upd {x : Addr} {zs ws : List V} (h : W48 C b a4 a6 y os m H p1 d11 d12 p2 d21 d22 s1 s2 S) (hx : H x = some (.lst zs)) (n4 : x ≠ a4) (n6 : x ≠ a6) (nb : x ≠ b.1 ∧ x ≠ b.2) : W48 C b a4 a6 y os m (L2.upd H x (.lst ws)) p1 d11 d12 p2 d21 d22 s1 s2 S := by
  have kl : ∀ {z u}, H z = some u → z ≠ x → L2.upd H x (.lst ws) z = some u := fun hz n => by rw [upd_ne n]; exact hz
  have kt : ∀ {z u}, H z = some u → (∀ l, u ≠ .lst l) → L2.upd H x (.lst ws) z = some u := fun hz n => kl hz (hne hz hx (n _))
  obtain ⟨j1, hj1⟩ := h.l1.ins
  obtain ⟨j2, hj2⟩ := h.l2.ins
  exact ⟨bag_upd h.bag nb, kl h.ho n4.symm, kl h.h6 n6.symm, ⟨kt h.sp.at_ (fun _ z => nomatch z), h.sp.ok⟩, ⟨h.l1.ok, ⟨j1, kt hj1 (fun _ z => nomatch z)⟩, kt h.l1.h1 (fun _ z => nomatch z), kt h.l1.h2 (fun _ z => nomatch z), h.l1.ne⟩, ⟨h.l2.ok, ⟨j2, kt hj2 (fun _ z => nomatch z)⟩, kt h.l2.h1 (fun _ z => nomatch z), kt h.l2.h2 (fun _ z => nomatch z), h.l2.ne⟩, h.np, h.nd, h.na, h.n6, h.n46, h.ny⟩
theorem W48.act1 {e2 : Addr} (h : W48 C b a4 a6 y os m H p1 d11 d12 p2 d21 d22 s1 s2 S) (f : Fr [p1, d11, d12] H H') (l : LvAt C H' p1 d11 e2 s') (he : e2 = d12 ∨ H e2 = none) : W48 C b a4 a6 y os m H' p1 d11 e2 p2 d21 d22 s' s2 S := by
  obtain ⟨j1, hj1⟩ := h.l1.ins
  obtain ⟨j2, hj2⟩ := h.l2.ins
  have kl : ∀ {z xs}, H z = some (.lst xs) → H' z = some (.lst xs) := fun hz => f _ _ (by simp; exact ⟨hne hz hj1 (fun z => nomatch z), hne hz h.l1.h1 (fun z => nomatch z), hne hz h.l1.h2 (fun z => nomatch z)⟩) hz
  have ky : H' y = some (.dT S) := f _ _ (by simp; exact ⟨hne h.sp.at_ hj1 (fun z => nomatch z), h.ny.1, h.ny.2.1⟩) h.sp.at_
  have e1 : e2 ≠ d21 := fun z => by
    rcases he with rfl | h0
    · exact h.nd.2.2.1 z
    · rw [z, h.l2.h1] at h0; cases h0
  have e3 : e2 ≠ d22 := fun z => by
    rcases he with rfl | h0
    · exact h.nd.2.2.2 z
    · rw [z, h.l2.h2] at h0; cases h0
  have e4 : y ≠ e2 := fun z => by
    rcases he with rfl | h0
    · exact h.ny.2.1 z
    · rw [← z, h.sp.at_] at h0; cases h0
  obtain ⟨x, y', z, ns, g1, g2, g3⟩ := h.bag
  exact ⟨⟨x, y', z, ns, kl g1, kl g2, g3⟩, kl h.ho, kl h.h6, ⟨ky, h.sp.ok⟩, l, ⟨h.l2.ok, ⟨j2, f _ _ (by simp; exact ⟨h.np.symm, hne hj2 h.l1.h1 (fun z => nomatch z), hne hj2 h.l1.h2 (fun z => nomatch z)⟩) hj2⟩, f _ _ (by simp; exact ⟨hne h.l2.h1 hj1 (fun z => nomatch z), h.nd.1.symm, h.nd.2.2.1.symm⟩) h.l2.h1, f _ _ (by simp; exact ⟨hne h.l2.h2 hj1 (fun z => nomatch z), h.nd.2.1.symm, h.nd.2.2.2.symm⟩) h.l2.h2, h.l2.ne⟩, h.np, ⟨h.nd.1, h.nd.2.1, e1, e3⟩, h.na, h.n6, h.n46, ⟨h.ny.1, e4, h.ny.2.2⟩⟩
theorem W48.act2 {e2 : Addr} (h : W48 C b a4 a6 y os m H p1 d11 d12 p2 d21 d22 s1 s2 S) (f : Fr [p2, d21, d22] H H') (l : LvAt C H' p2 d21 e2 s') (he : e2 = d22 ∨ H e2 = none) : W48 C b a4 a6 y os m H' p1 d11 d12 p2 d21 e2 s1 s' S := by
  obtain ⟨j1, hj1⟩ := h.l1.ins
  obtain ⟨j2, hj2⟩ := h.l2.ins
  have kl : ∀ {z xs}, H z = some (.lst xs) → H' z = some (.lst xs) := fun hz => f _ _ (by simp; exact ⟨hne hz hj2 (fun z => nomatch z), hne hz h.l2.h1 (fun z => nomatch z), hne hz h.l2.h2 (fun z => nomatch z)⟩) hz
  have ky : H' y = some (.dT S) := f _ _ (by simp; exact ⟨hne h.sp.at_ hj2 (fun z => nomatch z), h.ny.2.2.1, h.ny.2.2.2⟩) h.sp.at_
  have e1 : d11 ≠ e2 := fun z => by
    rcases he with rfl | h0
    · exact h.nd.2.1 z
    · rw [← z, h.l1.h1] at h0; cases h0
  have e3 : d12 ≠ e2 := fun z => by
    rcases he with rfl | h0
    · exact h.nd.2.2.2 z
    · rw [← z, h.l1.h2] at h0; cases h0
  have e4 : y ≠ e2 := fun z => by
    rcases he with rfl | h0
    · exact h.ny.2.2.2 z
    · rw [← z, h.sp.at_] at h0; cases h0
  obtain ⟨x, y', z, ns, g1, g2, g3⟩ := h.bag
  exact ⟨⟨x, y', z, ns, kl g1, kl g2, g3⟩, kl h.ho, kl h.h6, ⟨ky, h.sp.ok⟩, ⟨h.l1.ok, ⟨j1, f _ _ (by simp; exact ⟨h.np, hne hj1 h.l2.h1 (fun z => nomatch z), hne hj1 h.l2.h2 (fun z => nomatch z)⟩) hj1⟩, f _ _ (by simp; exact ⟨hne h.l1.h1 hj2 (fun z => nomatch z), h.nd.1, h.nd.2.1⟩) h.l1.h1, f _ _ (by simp; exact ⟨hne h.l1.h2 hj2 (fun z => nomatch z), h.nd.2.2.1, h.nd.2.2.2⟩) h.l1.h2, h.l1.ne⟩, l, h.np, ⟨h.nd.1, e1, h.nd.2.2.1, e3⟩, h.na, h.n6, h.n46, ⟨h.ny.1, h.ny.2.1, h.ny.2.2.1, e4⟩⟩
/-- a copy in place of the second -/
theorem W48.twin {p' c1 c2 : Addr} (h : W48 C b a4 a6 y os m H p1 d11 d12 p2 d21 d22 s1 s2 S) (e : Ex H H') (np : H p' = none) (n1 : H c1 = none) (n2 : H c2 = none) (l : LvAt C H' p' c1 c2 s') : W48 C b a4 a6 y os m (L2.upd H' a6 (.lst [.ref p1, .ref p'])) p1 d11 d12 p' c1 c2 s1 s' S := by
  have h' := h.ex e
  have dif : ∀ {x z : Addr} {u : HO}, H x = some u → H z = none → x ≠ z := fun h1 h2 w => by rw [w, h2] at h1; cases h1
  have kl : ∀ {z u}, H' z = some u → z ≠ a6 → L2.upd H' a6 (.lst [.ref p1, .ref p']) z = some u := fun hz n => by rw [upd_ne n]; exact hz
  have kt : ∀ {z u}, H' z = some u → (∀ l, u ≠ .lst l) → L2.upd H' a6 (.lst [.ref p1, .ref p']) z = some u := fun hz n => kl hz (hne hz h'.h6 (n _))
  obtain ⟨j1, hj1⟩ := h'.l1.ins
  obtain ⟨j2, hj2⟩ := l.ins
  obtain ⟨j0, hj0⟩ := h.l1.ins
  exact ⟨bag_upd h'.bag h.n6, kl h'.ho h.n46, upd_same, ⟨kt h'.sp.at_ (fun _ z => nomatch z), h.sp.ok⟩, ⟨h.l1.ok, ⟨j1, kt hj1 (fun _ z => nomatch z)⟩, kt h'.l1.h1 (fun _ z => nomatch z), kt h'.l1.h2 (fun _ z => nomatch z), h.l1.ne⟩, ⟨l.ok, ⟨j2, kt hj2 (fun _ z => nomatch z)⟩, kt l.h1 (fun _ z => nomatch z), kt l.h2 (fun _ z => nomatch z), l.ne⟩, dif hj0 np, ⟨dif h.l1.h1 n1, dif h.l1.h1 n2, dif h.l1.h2 n1, dif h.l1.h2 n2⟩, h.na, h.n6, h.n46, ⟨h.ny.1, h.ny.2.1, dif h.sp.at_ n1, dif h.sp.at_ n2⟩⟩
end
/-- of the rows at zs the first k were heard -/
def Done (f : Int → Int → Int) (s s' : Lv) (H0 : Hp) (zs : List V) (k : Nat) : Prop := ∃ R, Hrd f s s' R ∧ ∀ r, r ∈ R ↔ ∃ j v, j < k ∧ zs[j]? = some v ∧ IsRow H0 v r
theorem Done.nil {f : Int → Int → Int} {s : Lv} {H0 : Hp} {zs : List V} : Done f s s H0 zs 0 := ⟨[], Hrd.nil f s, fun r => ⟨(fun h => by cases h), fun ⟨j, _, h, _⟩ => absurd h (Nat.not_lt_zero _)⟩⟩
theorem IsRow.one {H : Hp} {v : V} {r r' : Int × Int × Int} (h : IsRow H v r) (h' : IsRow H v r') : r = r' := by
  obtain ⟨u, rfl, hu⟩ := h
  obtain ⟨u', e, hu'⟩ := h'
  cases e
  rw [hu] at hu'
  have : rowV r = rowV r' := HO.tup.inj (Option.some.inj hu')
  unfold rowV at this
  obtain ⟨n, l, t⟩ := r
  obtain ⟨n', l', t'⟩ := r'
  simp at this
  obtain ⟨h1, h2, h3⟩ := this
  rw [h1, h2, h3]
theorem Done.snoc {f : Int → Int → Int} {s s' : Lv} {H0 : Hp} {zs : List V} {k : Nat} {v : V} {n l t : Int} (h : Done f s s' H0 zs k) (hv : zs[k]? = some v) (hr : IsRow H0 v (n, l, t)) (hl : l = f n t) : Done f s (s'.hears n l t) H0 zs (k + 1) := by
  obtain ⟨R, h1, h2⟩ := h
  refine ⟨R ++ [(n, l, t)], h1.snoc hl, fun r => ?_⟩
  rw [List.mem_append, List.mem_singleton, h2]
  constructor
  · rintro (⟨j, w, h3, h4, h5⟩ | rfl)
    · exact ⟨j, w, Nat.lt_succ_of_lt h3, h4, h5⟩
    · exact ⟨k, v, Nat.lt_succ_self _, hv, hr⟩
  · rintro ⟨j, w, h3, h4, h5⟩
    by_cases c : j = k
    · subst c
      rw [hv] at h4
      cases h4
      exact .inr (h5.one hr)
    · exact .inl ⟨j, w, by omega, h4, h5⟩
theorem Done.sim {f : Int → Int → Int} {s1 s2 s1' s2' : Lv} {H1 H2 : Hp} {zs ws : List V} (h1 : Done f s1 s1' H1 zs zs.length) (h2 : Done f s2 s2' H2 ws ws.length) (h : Sim s1 s2) (hm : ∀ v, v ∈ ws ↔ v ∈ zs) (hi : ∀ v ∈ zs, ∀ r, IsRow H1 v r ↔ IsRow H2 v r) : Sim s1' s2' := by
  obtain ⟨R1, g1, m1⟩ := h1
  obtain ⟨R2, g2, m2⟩ := h2
  refine g1.sim g2 h fun r => ?_
  rw [m1, m2]
  constructor
  · rintro ⟨j, v, h3, h4, h5⟩
    have hv := List.mem_of_getElem? h4
    obtain ⟨i, hi'⟩ := List.getElem?_of_mem ((hm v).mpr hv)
    exact ⟨i, v, (List.getElem?_eq_some_iff.mp hi').1, hi', (hi v hv r).mp h5⟩
  · rintro ⟨j, v, h3, h4, h5⟩
    have hv := (hm v).mp (List.mem_of_getElem? h4)
    obtain ⟨i, hi'⟩ := List.getElem?_of_mem hv
    exact ⟨i, v, (List.getElem?_eq_some_iff.mp hi').1, hi', (hi v hv r).mpr h5⟩
def RowOk (S : List (List L2.Key × V)) (m : Int) (H : Hp) (v : V) (r : Int × Int × Int) : Prop := IsRow H v r ∧ (0 ≤ r.1 ∧ r.1 < 10) ∧ (0 ≤ r.2.1 ∧ r.2.1 ≤ m) ∧ valV S [.inl r.1, .inl r.2.2] = some (.int r.2.1)
def lvl (S : List (List L2.Key × V)) (n t : Int) : Int := match valV S [.inl n, .inl t] with
  | some (.int l) => l
  | _ => 0
theorem RowOk.lvl {S : List (List L2.Key × V)} {m : Int} {H : Hp} {v : V} {n l t : Int} (h : RowOk S m H v (n, l, t)) : l = lvl S n t := by
  unfold K48.lvl
  have e : valV S [.inl n, .inl t] = some (.int l) := h.2.2.2
  rw [e]
theorem IsRow.fr {W : List Addr} {H H' : Hp} {v : V} {r : Int × Int × Int} (h : IsRow H v r) (f : Fr W H H') (n : ∀ x ∈ W, ∀ ys, H x ≠ some (.tup ys)) : IsRow H' v r := let ⟨u, h1, h2⟩ := h; ⟨u, h1, f _ _ (fun hm => n _ hm _ h2) h2⟩
theorem IsRow.ex {H H' : Hp} {v : V} {r : Int × Int × Int} (h : IsRow H v r) (e : Ex H H') : IsRow H' v r := let ⟨u, h1, h2⟩ := h; ⟨u, h1, e _ _ h2⟩
end K48
end
section
set_option Elab.async false
set_option linter.all false
set_option maxRecDepth 100000
set_option maxHeartbeats 4000000
namespace K48
local macro_rules | `(tactic| walk_at "pos") => `(tactic| (show (0 : Int) < _; first | decide | omega))
open PySem PySem.Spec PyProof.Rows L2 Lf 
open Evl
local macro_rules | `(tactic| walk_at "lk") => `(tactic| (simp (disch := decide +kernel) only [lk_hit, lk_miss, lk_nil]))
local macro_rules | `(tactic| walk_at "pf") => `(tactic| (simp (disch := decide +kernel) only [pf_hit, pf_miss, pf_nil]))
def headD (s : Lv) : PyData := match s.head with | none => .none | some i => .int i
theorem dp_head {K : PySem.W.Frag} {H : Hp} (s : Lv) : Dp K H (optV s.head) (headD s) := by
  unfold headD
  cases s.head with
  | none => exact .non
  | some i => exact .int i
def Inv48 (C : Addr) (b : Addr × Addr) (a a4 a6 y : Addr) (m pl qu : Int) (os : List Int) (i : Nat) (σ : L2.St) (H : Hp) : Prop := ∃ (t : Int) (o9 o10 o11 o12 o13 o14 o15 o16 : Option V) (p1 d11 d12 p2 d21 d22 : Addr) (s1 s2 : Lv) (S : List (List L2.Key × V)),
  σ = [some (.ref a), some (.ref b.1), some (.int m), some (.int pl), some (.ref a4), some (.int qu), some (.ref a6), some (.int t), some (.ref y), o9, o10, o11, o12, o13, o14, o15, o16] ∧ W48 C b a4 a6 y os m H p1 d11 d12 p2 d21 d22 s1 s2 S ∧ Sim s1 s2 ∧ S.length ≤ 9 * i ∧ i ≤ 16
section
variable {P : Program} {w : World} {K : PySem.W.Frag} {mg : Str → Option Value} {base : Heap} {CLevels : Addr} (T : Top K mg CLevels)
include T
theorem f_law {f : Addr} {fd : FuncData} (F : L2.Fun K "law" "law" s_law f fd) : Fn P w K mg base CX0 7 f fd ["_law_script"] (spLaw K) := by
  refine fn0G F sc_law (fun vs H Q E h => ?_) (fun cdv A outer s H vs Q E g hr h => ?_)
  · obtain ⟨a, ns, rfl, _⟩ := h
    rfl
  · obtain ⟨a, ns, rfl, hx, hl, k⟩ := h
    refine ⟨_, (pss_cons (ps_set (i := 1) sc_law.nd rfl (Or.inr rfl) (ec (c_lw_bag T) g hr (by decide) pass0 (by rfl) (pa_cons (pv 0) pa_nil)))
    (pss_cons (ps_set (i := 2) sc_law.nd rfl (Or.inr rfl) (pe_op op_add pe_int (ec (c_lw_take T) g hr (by decide) pass0 (by rfl) (pa_cons (pv 1) (pa_cons pe_int pa_nil)))))
    (pss_cons (ps_set (i := 3) sc_law.nd rfl (Or.inr rfl) (ec (c_lw_take T) g hr (by decide) pass0 (by rfl) (pa_cons (pv 1) (pa_cons (pv 2) pa_nil))))
    (pss_cons (ps_set (i := 4) sc_law.nd rfl (Or.inr rfl) (pe_lc (own := [("_law_one", 11)]) (g := (gName 11)) (by rfl) sc_law.nd (pi_range1 (by rfl) T.n_range (pa_cons (pv 2) pa_nil)) (blkOk_by (own := [("_law_one", 11)]) (N := ns_law) (sc := defScope s_law) (by decide +kernel)) (fun _ _ _ _ _ => (pg_name (i := 11) sc_law.nd rfl (Or.inl rfl))) (fun _ _ _ _ _ => pts_one (pt_cmpR op_ne (pv 11) (pv 3) (nomark _))) (fun _ _ _ _ _ => (pv 11))))
    (pss_cons (ps_set (i := 5) sc_law.nd rfl (Or.inr rfl) (pe_op op_add pe_int (ec (c_lw_take T) g hr (by decide) pass0 (by rfl) (pa_cons (pv 1) (pa_cons pe_int pa_nil)))))
    (pss_cons (ps_set (i := 6) sc_law.nd rfl (Or.inl rfl) (pe_lst (pa_cons (emk (c_Levels T) g hr (by decide) pass0 (by rfl) (pa_cons (pv 3) (pa_cons (pv 2) pa_nil))) (pa_cons (emk (c_Levels T) g hr (by decide) pass0 (by rfl) (pa_cons (pv 3) (pa_cons (pv 2) pa_nil))) pa_nil))))
    (pss_cons (ps_set (i := 7) sc_law.nd rfl (Or.inr rfl) (ec (c_lw_take T) g hr (by decide) pass0 (by rfl) (pa_cons (pv 1) (pa_cons pe_int pa_nil))))
    (pss_cons (ps_set (i := 8) sc_law.nd rfl (Or.inr rfl) pe_dnewT)
    (pss_cons (ps_for PassesOwn.never rfl (pi_range1 (by rfl) T.n_range (pa_cons (pe_op op_add pe_int (ec (c_lw_take T) g hr (by decide) pass0 (by rfl) (pa_cons (pv 1) (pa_cons pe_int pa_nil)))) pa_nil)) (pg_name (i := 9) sc_law.nd rfl (Or.inl rfl)) (pss_cons (ps_set (i := 7) sc_law.nd rfl (Or.inr rfl) (pe_op op_add (pe_op op_add (pv 7) pe_int) (ec (c_lw_take T) g hr (by decide) pass0 (by rfl) (pa_cons (pv 1) (pa_cons (pe_ix (kix (K := K) (r := rIxL) ix_list rfl) (pe_lst (pa_cons pe_int (pa_cons (pe_op op_add (pv 5) pe_int) pa_nil))) (ec (c_lw_take T) g hr (by decide) pass0 (by rfl) (pa_cons (pv 1) (pa_cons pe_int pa_nil))) (fun _ _ => rfl)) pa_nil)))))
        (pss_cons (ps_setLc (i := 10) (own := [("_law_j", 15)]) (g := (gName 15)) (tt := tYes) (by rfl) sc_law.nd rfl rfl (sw_true rfl rfl rfl (by decide +kernel)) (pi_range1 (by rfl) T.n_range (pa_cons (ec (c_lw_take T) g hr (by decide) pass0 (by rfl) (pa_cons (pv 1) (pa_cons pe_int pa_nil))) pa_nil)) (blkOk_by (own := [("_law_j", 15)]) (N := ns_law) (sc := defScope s_law) (by decide +kernel)) (fun _ _ _ _ _ => (pg_name (i := 15) sc_law.nd rfl (Or.inl rfl))) (fun _ _ _ _ _ => pts_nil) (fun _ _ _ _ _ => (ec (c_lw_said T) g hr (by decide) pass0 (by rfl) (pa_cons (pv 1) (pa_cons (pv 4) (pa_cons (pv 2) (pa_cons (pv 7) (pa_cons (pv 8) pa_nil))))))))
        (pss_cons (ps_for PassesOwn.never rfl (k_list (K := K) rfl (pv 10)) (k_gtup (K := K) rfl (by rfl) (pgs_cons (pg_name (i := 11) sc_law.nd rfl (Or.inl rfl)) (pgs_cons (pg_name (i := 12) sc_law.nd rfl (Or.inl rfl)) (pgs_cons (pg_name (i := 13) sc_law.nd rfl (Or.inl rfl)) pgs_nil)))) (pss_one (ps_expr (emt (c_Levels_hears T) g hr (by decide) pass0 (pe_ix (kix (K := K) (r := rIxL) ix_list rfl) (pv 6) pe_int (fun _ _ => rfl)) (pa_cons (pv 11) (pa_cons (pv 12) (pa_cons (pv 13) pa_nil)))))))
        (pss_cons (ps_for PassesOwn.never rfl (k_list (K := K) rfl (ec (c_lw_shuffled T) g hr (by decide) pass0 (by rfl) (pa_cons (pv 1) (pa_cons (pv 10) pa_nil)))) (k_gtup (K := K) rfl (by rfl) (pgs_cons (pg_name (i := 11) sc_law.nd rfl (Or.inl rfl)) (pgs_cons (pg_name (i := 12) sc_law.nd rfl (Or.inl rfl)) (pgs_cons (pg_name (i := 13) sc_law.nd rfl (Or.inl rfl)) pgs_nil)))) (pss_one (ps_expr (emt (c_Levels_hears T) g hr (by decide) pass0 (pe_ix (kix (K := K) (r := rIxL) ix_list rfl) (pv 6) pe_int (fun _ _ => rfl)) (pa_cons (pv 11) (pa_cons (pv 12) (pa_cons (pv 13) pa_nil)))))))
        (C8.pss_cut (ps_if (pt_cmpR op_eq (ec (c_lw_take T) g hr (by decide) pass0 (by rfl) (pa_cons (pv 1) (pa_cons pe_int pa_nil))) pe_int (nomark _)) (pss_one (ps_asg (emt0 (c_Levels_copied T) g hr (by decide) pass0 (pe_ix (kix (K := K) (r := rIxL) ix_list rfl) (pv 6) pe_int (fun _ _ => rfl))) (pg_sub (pv 6) pe_int set_list))) pss_nil)
        (pss_cons (ps_setLc (i := 14) (own := [("_law_levels", 16)]) (g := (gName 16)) (tt := tYes) (by rfl) sc_law.nd rfl rfl (sw_true rfl rfl rfl (by decide +kernel)) (k_list (K := K) rfl (pv 6)) (blkOk_by (own := [("_law_levels", 16)]) (N := ns_law) (sc := defScope s_law) (by decide +kernel)) (fun _ _ _ _ _ => (pg_name (i := 16) sc_law.nd rfl (Or.inl rfl))) (fun _ _ _ _ _ => pts_nil) (fun _ _ _ _ _ => (emt (c_Levels_at_slot T) g hr (by decide) pass0 (pv 16) (pa_cons (pv 7) (pa_cons (pv 5) pa_nil)))))
        (pss_cons (ps_if (pt_not (pt_val (ec (c_lw_alike T) g hr (by decide) pass0 (by rfl) (pa_cons (pe_ix (kix (K := K) (r := rIxL) ix_list rfl) (pv 14) pe_int (fun _ _ => rfl)) (pa_cons (pe_ix (kix (K := K) (r := rIxL) ix_list rfl) (pv 14) pe_int (fun _ _ => rfl)) pa_nil))))) (pss_one (ps_ret pe_bl)) pss_nil)
        (pss_one (ps_if (pt_not (pt_val (ec (c_lw_alike T) g hr (by decide) pass0 (by rfl) (pa_cons (pe_lst (pa_cons (emt0 (c_Levels_level T) g hr (by decide) pass0 (pe_ix (kix (K := K) (r := rIxL) ix_list rfl) (pv 6) pe_int (fun _ _ => rfl))) (pa_cons (emt0 (c_Levels_head T) g hr (by decide) pass0 (pe_ix (kix (K := K) (r := rIxL) ix_list rfl) (pv 6) pe_int (fun _ _ => rfl))) pa_nil))) (pa_cons (pe_lst (pa_cons (emt0 (c_Levels_level T) g hr (by decide) pass0 (pe_ix (kix (K := K) (r := rIxL) ix_list rfl) (pv 6) pe_int (fun _ _ => rfl))) (pa_cons (emt0 (c_Levels_head T) g hr (by decide) pass0 (pe_ix (kix (K := K) (r := rIxL) ix_list rfl) (pv 6) pe_int (fun _ _ => rfl))) pa_nil))) pa_nil))))) (pss_one (ps_ret pe_bl)) pss_nil))))))))))
    (pss_one (ps_ret pe_bl))))))))))), ?_⟩
    refine ⟨_, rfl, a, ns, rfl, hx, hl, fun b H1 e1 b0 hb1 => ?_⟩
    -- many, place
    refine q_dri (p := fun m => 2 ≤ m ∧ m ≤ 10) hb1 (dri_I0 (p := fun x => x = 2) (dri_c rfl) (dri_tk rfl (by decide) (by decide)) (by intros; omega)) fun m H2 s2 hm => ?_
    refine q_dri (p := fun x => 0 ≤ x ∧ x < m) s2.1 (dri_tkv rfl rfl (by omega) (by omega)) fun pl H3 s3 hpl => ?_
    -- others
    let os : List Int := ((List.range m.toNat).filter fun i : Nat => !decide (V.int (i : Int) = V.int pl)).map fun i : Nat => (i : Int)
    refine q_asgL (xs := os.map V.int) ?_ fun a4 H4 a40 e4 ha4 => ?_
    · have lc := el_lcR1 (ta := tCons (tVar 2) tNil) (σ := [some (V.ref a), some (V.ref b.1), some (V.int m), some (V.int pl), none, none, none, none, none, none, none, none, none, none, none, none, none]) (H := H3) (j := 11) (vs := [11]) (n := m) (t := tTest (tOp rNe (tVar 11) (tVar 3))) (te := tVar 11) (fun i => !decide (V.int (i : Int) = V.int pl)) (fun i => V.int (i : Int)) (ea_cons (ev_var rfl) ea_nil) ⟨by omega, by omega⟩ (fun _ => rfl)
        (fun i H1 e1 hi => et_test (ev_op (ev_var rfl) (ev_var rfl) (rv_ne rfl))) (fun i H1 e1 hi hf => ev_var rfl)
      have eg : given m.toNat (fun i => !decide (V.int (i : Int) = V.int pl)) (fun i => V.int (i : Int)) = os.map V.int := by
        show _ = (List.map _ _).map V.int
        rw [List.map_map]
        rfl
      rw [eg] at lc
      exact lc
    have hos : ∀ o ∈ os, 0 ≤ o ∧ o < 10 := fun o ho => by
      obtain ⟨i, hi, rfl⟩ := List.mem_map.mp ho
      have := List.mem_range.mp (List.mem_filter.mp hi).1
      omega
    have hos1 : 1 ≤ os.length := by
      by_cases hp0 : pl = 0
      · have : (1 : Int) ∈ os := List.mem_map.mpr ⟨1, List.mem_filter.mpr ⟨List.mem_range.mpr (by omega), by
          rw [decide_eq_false (by intro z; have := V.int.inj z; omega)]
          rfl⟩, rfl⟩
        exact List.length_pos_of_mem this
      · have : (0 : Int) ∈ os := List.mem_map.mpr ⟨0, List.mem_filter.mpr ⟨List.mem_range.mpr (by omega), by
          rw [decide_eq_false (by intro z; have := V.int.inj z; omega)]
          rfl⟩, rfl⟩
        exact List.length_pos_of_mem this
    have hos2 : os.length ≤ 10 := by
      show (List.map _ _).length ≤ 10
      rw [List.length_map]
      have h1 : ((List.range m.toNat).filter fun i : Nat => !decide (V.int (i : Int) = V.int pl)).length ≤ (List.range m.toNat).length := List.length_filter_le _ _
      rw [List.length_range] at h1
      omega
    generalize os = os at *
    have hb4 : Bag H4 b := s3.1.ex e4
    have na4 : a4 ≠ b.1 := s3.1.ne a40
    -- quiet
    refine q_dri (p := fun x => 1 ≤ x ∧ x ≤ 5) hb4 (dri_I0 (p := fun x => x = 1) (q := fun x => 0 ≤ x ∧ x < 5) (dri_c rfl) (dri_tk rfl (by decide) (by decide)) (by intros; omega)) fun qu H5 s5 hqu => ?_
    have ha5 := s5.at na4 ha4
    -- both
    refine ⟨_, rfl, _, rfl, fun p1 dx1 n1 nd1 ne1 => ⟨p1, dx1, pl, m, rfl, upd_same, ⟨by omega, by omega⟩, ⟨by omega, by omega⟩, fun H6 d11 d12 f1 m11 m12 L1 => ⟨rfl, _, rfl, _, rfl, fun p2 dx2 n2 nd2 ne2 => ⟨p2, dx2, pl, m, rfl, upd_same, ⟨by omega, by omega⟩, ⟨by omega, by omega⟩, fun H7 d21 d22 f2 m21 m22 L2 => ⟨rfl, by show 2 ≤ sizeLine; decide, fun a6 h6 => ?_⟩⟩⟩⟩⟩
    have e56 := ex_made n1 nd1 f1
    have e67 := ex_made n2 nd2 f2
    have e57 := e56.trans e67
    have e78 : Ex H7 (upd H7 a6 (.lst [.ref p1, .ref p2])) := Ex.new h6
    have h68 : (upd H7 a6 (.lst [.ref p1, .ref p2])) a6 = some (.lst [.ref p1, .ref p2]) := upd_same
    have b7 := s5.1.ex e57
    have n61 := b7.ne h6
    have n62 := b7.ne2 h6
    have n46 : a4 ≠ a6 := fun z => by rw [← z, e57 _ _ ha5] at h6; cases h6
    generalize upd H7 a6 (.lst [.ref p1, .ref p2]) = H8 at e78 h68 ⊢
    -- turn
    refine q_dri (p := fun _ => True) (b7.ex e78) ((dri_tk rfl (by decide) (by decide)).imp fun _ _ => trivial) fun t0 H9 s9 _ => ?_
    -- spoken
    refine fun y hy => ?_
    have L1' := (L1.ex e67).ex e78
    have L2' := L2.ex e78
    obtain ⟨j1, hj1⟩ := L1.ins
    have b8 := b7.ex e78
    have y8 : H8 y = none := s9.free hy
    have dif : ∀ {H : Hp} {x z : Addr} {u : HO}, H x = some u → H z = none → x ≠ z := fun h1 h2 w => by rw [w, h2] at h1; cases h1
    have d210 := none_made m21
    have d220 := none_made m22
    have W0 : W48 CLevels b a4 a6 y os m (upd H9 y (.dT [])) p1 d11 d12 p2 d21 d22 (Lv.new pl m) (Lv.new pl m) [] := by
      have e9 : Step b H8 (upd H9 y (.dT [])) := s9.trans (.pure s9.1 (Ex.new hy))
      have nb : ∀ {x u}, H8 x = some u → (∀ xs, u ≠ .lst xs) → x ≠ b.1 := fun h1 h2 => (bag_not b8 h1 h2).1
      obtain ⟨k1, hk1⟩ := L1'.ins
      obtain ⟨k2, hk2⟩ := L2'.ins
      exact ⟨e9.1, e9.at na4 (e78 _ _ (e57 _ _ ha5)), e9.at n61 h68, ⟨upd_same, fun k v hv => by rw [valV_nil] at hv; cases hv⟩, ⟨L1'.ok, ⟨k1, e9.at (nb hk1 (fun _ z => nomatch z)) hk1⟩, e9.at (nb L1'.h1 (fun _ z => nomatch z)) L1'.h1, e9.at (nb L1'.h2 (fun _ z => nomatch z)) L1'.h2, L1'.ne⟩, ⟨L2'.ok, ⟨k2, e9.at (nb hk2 (fun _ z => nomatch z)) hk2⟩, e9.at (nb L2'.h1 (fun _ z => nomatch z)) L2'.h1, e9.at (nb L2'.h2 (fun _ z => nomatch z)) L2'.h2, L2'.ne⟩,
        dif hj1 n2, ⟨dif L1.h1 d210, dif L1.h1 d220, dif L1.h2 d210, dif L1.h2 d220⟩, na4, ⟨n61, n62⟩, n46, ⟨(dif L1'.h1 y8).symm, (dif L1'.h2 y8).symm, (dif L2'.h1 y8).symm, (dif L2'.h2 y8).symm⟩⟩
    generalize upd H9 y (.dT []) = H10 at W0 ⊢
    refine q_forD (N := 16) W0.bag (dri_I0 (p := fun x => x = 8) (dri_c rfl) (dri_tk rfl (by decide) (by decide)) (by intros; omega)) (by decide) (fun i σ' H' => Inv48 CLevels b a a4 a6 y m pl qu os i σ' H')
      (fun H11 s11 => ⟨t0, none, none, none, none, none, none, none, none, p1, d11, d12, p2, d21, d22, _, _, [], rfl, W0.step s11, Sim.refl _, Nat.le_refl _, by decide⟩) ?_ ?_
    · clear W0 L1 L2 L1' L2' hj1 dif d210 d220 y8 b8 h68 e78 n46 n61 n62 b7 m11 m12 m21 m22 f1 f2 n1 n2 nd1 nd2 ne1 ne2 h6 e56 e67 e57 s9 hy
      rintro i σ' H' hi ⟨t, o9, o10, o11, o12, o13, o14, o15, o16, p1, d11, d12, p2, d21, d22, s1, s2, S, rfl, W, hsim, hS, hi16⟩
      -- turn
      refine q_dri (p := fun _ => True) W.bag (dri_I0 (p := fun _ => True) (q := fun _ => True) (dri_I0 (p := fun _ => True) (q := fun _ => True) (dri_var rfl trivial) (dri_c trivial) (by intros; trivial)) (dri_take rfl (dri_pick (n := 2) (p := fun x => (0 < x ∧ x ≤ 1000000000000000000000000000000) ∧ ∀ v, 0 ≤ v → v < x → True) (dra_cons (DrI.dr (dri_c ⟨by decide, fun _ _ _ => trivial⟩)) (dra_cons (DrI.dr (dri_I0 (p := fun x => x = qu) (q := fun x => x = 2) (dri_var rfl rfl) (dri_c rfl) (fun i j hi hj => by rw [hi, hj]; exact ⟨by omega, fun _ _ _ => trivial⟩))) (dra_nil rfl))) (dri_tk rfl (by decide) (by decide)) (by decide))) (by intros; trivial)) fun t H1 r1 _ => ?_
      have W1 := W.step r1
      clear W r1
      -- rows
      refine q_asgX (R := fun v H2 => ∃ (z : Addr) (zs : List V) (S' : List (List L2.Key × V)), v = .ref z ∧ H1 z = none ∧ W48 CLevels b a4 a6 y os m H2 p1 d11 d12 p2 d21 d22 s1 s2 S' ∧ H2 z = some (.lst zs) ∧ zs.length ≤ 8 ∧ S'.length ≤ S.length + 8 ∧ ∀ v ∈ zs, ∃ r, RowOk S' m H2 v r) ?_ ?_
      · intro Q' qq
        refine ⟨_, rfl, b, 9, rfl, W1.bag, ⟨by decide, by decide⟩, fun v H2 v0 v1 b2 dd2 => ⟨v, rfl, by omega, by omega, fun D hD => lc_range (lo := 0) (n := v.toNat) (fun i H3 => ∃ (zs : List V) (S' : List (List L2.Key × V)), W48 CLevels b a4 a6 y os m H3 p1 d11 d12 p2 d21 d22 s1 s2 S' ∧ H3 D = some (.lst zs) ∧ zs.length = i ∧ S'.length ≤ S.length + i ∧ ∀ v ∈ zs, ∃ r, RowOk S' m H3 v r) ?_ ?_ ?_⟩⟩
        · have W2 := W1.step (.draw b2 dd2)
          exact ⟨[], S, W2.ex (Ex.new hD), upd_same, rfl, Nat.le_refl _, fun v hv => by cases hv⟩
        · rintro i2 H3 hi2 ⟨zs, S', W3, h3, hz, hS', hrow⟩
          have W2 := W1.step (.draw b2 dd2)
          have nD4 : D ≠ a4 := fun z => by rw [z, W2.ho] at hD; cases hD
          have nD6 : D ≠ a6 := fun z => by rw [z, W2.h6] at hD; cases hD
          have nDb : D ≠ b.1 ∧ D ≠ b.2 := ⟨W2.bag.ne hD, W2.bag.ne2 hD⟩
          refine ⟨rfl, yes_ok _ (Ex.refl _) _ fun H4 e4 => ?_⟩
          rw [if_pos rfl]
          have W4 := W3.ex e4
          refine ⟨_, rfl, _, rfl, _, rfl, _, rfl, _, rfl, b, a4, y, m, t, os, S', rfl, W4.bag, W4.ho, na4, ⟨hos1, hos2⟩, hos, hm, W4.sp, by omega, fun H5 u n l w S2 f5 sp5 len5 mono5 val5 hn hl u0 hu => ?_⟩
          have W5 := W4.mv f5 sp5
          have h5 : H5 D = some (.lst zs) := f5.2 _ _ (by simp; exact ⟨nDb.1, hne (e4 _ _ h3) W4.sp.at_ (fun z => nomatch z)⟩) (e4 _ _ h3)
          refine ⟨zs, h5, Nat.lt_of_le_of_lt (show zs.length ≤ 20 from by omega) (by decide), zs ++ [.ref u], S2, W5.upd h5 nD4 nD6 nDb, upd_same, by rw [List.length_append, hz] <;> rfl, by omega, fun v hv => ?_⟩
          have up : ∀ {x ys}, H5 x = some (.tup ys) → (upd H5 D (.lst (zs ++ [.ref u]))) x = some (.tup ys) := fun hx => by rw [upd_ne (hne hx h5 (fun z => nomatch z))]; exact hx
          rcases List.mem_append.mp hv with hv | hv
          · obtain ⟨r, ⟨uu, g1, g2⟩, g3, g4, g5⟩ := hrow v hv
            exact ⟨r, ⟨uu, g1, up (f5.2 _ _ (by simp; exact ⟨(bag_not W4.bag (e4 _ _ g2) (fun _ z => nomatch z)).1, hne (e4 _ _ g2) W4.sp.at_ (fun z => nomatch z)⟩) (e4 _ _ g2))⟩, g3, g4, mono5 _ _ g5⟩
          · rw [List.mem_singleton.mp hv]
            exact ⟨(n, l, w), ⟨u, rfl, up hu⟩, hn, hl, val5⟩
        · rintro H3 ⟨zs, S', W3, h3, hz, hS', hrow⟩
          have W2 := W1.step (.draw b2 dd2)
          refine qq _ _ ⟨D, zs, S', rfl, ?_, W3, h3, by omega, by omega, hrow⟩
          rw [← dd2 D (W2.bag.ne hD)]
          exact hD
      rintro _ H2 ⟨z, zs, S', rfl, z0, W2, hz2, hzl, hS2, hrow⟩
      have nz4 : z ≠ a4 := fun q => by rw [q, W1.ho] at z0; cases z0
      have nz6 : z ≠ a6 := fun q => by rw [q, W1.h6] at z0; cases z0
      have nzb : z ≠ b.1 ∧ z ≠ b.2 := ⟨W1.bag.ne z0, W1.bag.ne2 z0⟩
      dsimp only [gName]
      -- the first hears
      refine q_forL (a := z) (xs := zs) (ev_var rfl) (sq_of hz2) (fun k σ' H3 => ∃ (o11 o12 o13 : Option V) (s1' : Lv), σ' = [some (.ref a), some (.ref b.1), some (.int m), some (.int pl), some (.ref a4), some (.int qu), some (.ref a6), some (.int t), some (.ref y), some (.int (i : Int)), some (.ref z), o11, o12, o13, o14, o15, o16] ∧ W48 CLevels b a4 a6 y os m H3 p1 d11 d12 p2 d21 d22 s1' s2 S' ∧ H3 z = some (.lst zs) ∧ (∀ v r, IsRow H2 v r → IsRow H3 v r) ∧ Done (lvl S') s1 s1' H2 zs k) (fun H3 e3 => ⟨_, _, _, s1, rfl, W2.ex e3, e3 _ _ hz2, fun v r h => h.ex e3, Done.nil⟩) (fun k σ' H3 _ ⟨_, _, _, _, _, _, h, _⟩ => sq_of h) ?_ ?_
      · rintro k v σ' H3 hv ⟨o11, o12, o13, s1', rfl, W3, h3, hk, hdn⟩
        obtain ⟨⟨n, l, w⟩, ok⟩ := hrow v (List.mem_of_getElem? hv)
        obtain ⟨u, rfl, hu⟩ := hk v _ ok.1
        obtain ⟨j1, hj1⟩ := W3.l1.ins
        refine ⟨u, _, rfl, st_of hu, rfl, _, _, rfl, _, _, rfl, _, _, rfl, rfl, ?_⟩
        refine ⟨_, rfl, a6, _, 0, .ref p1, rfl, rfl, sq_of W3.h6, rfl, p1, j1, _, rfl, hj1, lvF_no (by decide +kernel), _, rfl, _, rfl, _, rfl, p1, d11, d12, s1', n, l, w, rfl, W3.l1, ok.2.1, ⟨ok.2.2.1.1, by have := ok.2.2.1.2; have : l ≤ m := this; omega⟩, fun H4 f4 l4 => ?_⟩
        have tp : ∀ x ∈ [d11, d12], ∀ ys, H3 x ≠ some (.tup ys) := fun x hx ys q => by
          simp at hx
          rcases hx with rfl | rfl
          · rw [W3.l1.h1] at q; cases q
          · rw [W3.l1.h2] at q; cases q
        exact ⟨_, _, _, _, rfl, W3.act1 (f4.mono (by intro x hx; simp at hx; rcases hx with rfl | rfl <;> simp)) l4 (.inl rfl), f4 _ _ (by simp; exact ⟨hne h3 W3.l1.h1 (fun z => nomatch z), hne h3 W3.l1.h2 (fun z => nomatch z)⟩) h3, fun v r h => (hk v r h).fr f4 tp, hdn.snoc hv ok.1 ok.lvl⟩
      rintro σ' H3 ⟨o11, o12, o13, s1', rfl, W3, h3, hk, hd1⟩
      have hrow3 : ∀ v ∈ zs, ∃ r, IsRow H3 v r := fun v hv => let ⟨r, h⟩ := hrow v hv; ⟨r, hk v r h.1⟩
      -- the second hears
      refine ⟨_, rfl, _, rfl, b, z, zs, rfl, W3.bag, h3, nzb.1, by omega, hrow3, fun H4 q ws r4 q0 hq4 hwl hmem => ⟨q, rfl, ⟨_, sq_of hq4⟩, for_list (xs := ws) (fun k σ' H5 => ∃ (o11 o12 o13 : Option V) (s2' : Lv), σ' = [some (.ref a), some (.ref b.1), some (.int m), some (.int pl), some (.ref a4), some (.int qu), some (.ref a6), some (.int t), some (.ref y), some (.int (i : Int)), some (.ref z), o11, o12, o13, o14, o15, o16] ∧ W48 CLevels b a4 a6 y os m H5 p1 d11 d12 p2 d21 d22 s1' s2' S' ∧ H5 q = some (.lst ws) ∧ (∀ v r, IsRow H2 v r → IsRow H5 v r) ∧ Done (lvl S') s2 s2' H2 ws k) ⟨_, _, _, s2, rfl, W3.step r4, hq4, fun v r h => let ⟨u, g1, g2⟩ := hk v r h; ⟨u, g1, r4.at (bag_not W3.bag g2 (fun _ z => nomatch z)).1 g2⟩, Done.nil⟩ (fun k σ' H5 _ ⟨_, _, _, _, _, _, h, _⟩ => sq_of h) ?_ ?_⟩⟩
      · rintro k v σ' H5 hv ⟨o11, o12, o13, s2', rfl, W5, h5, hk5, hdn⟩
        obtain ⟨⟨n, l, w⟩, ok⟩ := hrow v ((hmem v).mp (List.mem_of_getElem? hv))
        obtain ⟨u, rfl, hu⟩ := hk5 v _ ok.1
        obtain ⟨j2, hj2⟩ := W5.l2.ins
        refine ⟨u, _, rfl, st_of hu, rfl, _, _, rfl, _, _, rfl, _, _, rfl, rfl, ?_⟩
        refine ⟨_, rfl, a6, _, 1, .ref p2, rfl, rfl, sq_of W5.h6, rfl, p2, j2, _, rfl, hj2, lvF_no (by decide +kernel), _, rfl, _, rfl, _, rfl, p2, d21, d22, s2', n, l, w, rfl, W5.l2, ok.2.1, ⟨ok.2.2.1.1, by have := ok.2.2.1.2; have : l ≤ m := this; omega⟩, fun H6 f6 l6 => ?_⟩
        have tp : ∀ x ∈ [d21, d22], ∀ ys, H5 x ≠ some (.tup ys) := fun x hx ys q => by
          simp at hx
          rcases hx with rfl | rfl
          · rw [W5.l2.h1] at q; cases q
          · rw [W5.l2.h2] at q; cases q
        exact ⟨_, _, _, _, rfl, W5.act2 (f6.mono (by intro x hx; simp at hx; rcases hx with rfl | rfl <;> simp)) l6 (.inl rfl), f6 _ _ (by simp; exact ⟨hne h5 W5.l2.h1 (fun z => nomatch z), hne h5 W5.l2.h2 (fun z => nomatch z)⟩) h5, fun v r h => (hk5 v r h).fr f6 tp, hdn.snoc hv ok.1 ok.lvl⟩
      rintro σ' H5 ⟨o11, o12, o13, s2', rfl, W5, h5, hk5, hd2⟩
      have hsim5 : Sim s1' s2' := hd1.sim hd2 hsim hmem (fun _ _ _ => Iff.rfl)
      have hS5 : S'.length ≤ 9 * (i + 1) := by omega
      -- a copy in its place
      refine ⟨fun σ' H6 => ∃ (p2 d21 d22 : Addr), σ' = [some (.ref a), some (.ref b.1), some (.int m), some (.int pl), some (.ref a4), some (.int qu), some (.ref a6), some (.int t), some (.ref y), some (.int (i : Int)), some (.ref z), o11, o12, o13, o14, o15, o16] ∧ W48 CLevels b a4 a6 y os m H6 p1 d11 d12 p2 d21 d22 s1' s2' S', ?_, ?_⟩
      · refine tany_dri (c := 0) W5.bag (dri_tk rfl (by decide) (by decide)) _ fun c H6 s6 => ?_
        have W6 := W5.step s6
        cases c with
        | false => exact ⟨p2, d21, d22, rfl, W6⟩
        | true =>
          obtain ⟨j2, hj2⟩ := W6.l2.ins
          exact ⟨_, rfl, a6, _, 1, .ref p2, rfl, rfl, sq_of W6.h6, rfl, p2, j2, _, rfl, hj2, lvF_no (by decide +kernel), p2, d21, d22, s2', rfl, W6.l2, fun p' c1 c2 H7 e7 np n1 n2 l7 => ⟨_, rfl, a6, _, 1, 1, rfl, rfl, e7 _ _ W6.h6, rfl, p', c1, c2, rfl, W6.twin e7 np n1 n2 l7⟩⟩
      clear hd1 hd2 hk5 h5 W5 hk h3 W3 hrow3 W2 W1 hrow
      rintro σ' H6 ⟨p2, d21, d22, rfl, W6⟩
      -- found
      refine q_asgX (R := fun v H7 => ∃ (g r1 r2 e1 e2 : Addr), v = .ref g ∧ W48 CLevels b a4 a6 y os m H7 p1 d11 e1 p2 d21 e2 (s1'.slot t qu) (s2'.slot t qu) S' ∧ H7 g = some (.lst [.ref r1, .ref r2]) ∧ H7 r1 = some (.lst ((s1'.slot t qu).told.map V.int)) ∧ H7 r2 = some (.lst ((s2'.slot t qu).told.map V.int))) ?_ ?_
      · intro Q' qq
        refine ⟨_, rfl, a6, rfl, ⟨_, sq_of W6.h6⟩, fun D hD => lc_list (xs := [.ref p1, .ref p2]) (fun i H7 => match i with
          | 0 => W48 CLevels b a4 a6 y os m H7 p1 d11 d12 p2 d21 d22 s1' s2' S' ∧ H7 D = some (.lst [])
          | 1 => ∃ (r1 e1 : Addr), W48 CLevels b a4 a6 y os m H7 p1 d11 e1 p2 d21 d22 (s1'.slot t qu) s2' S' ∧ H7 D = some (.lst [.ref r1]) ∧ r1 ≠ D ∧ H7 r1 = some (.lst ((s1'.slot t qu).told.map V.int))
          | _ => ∃ (r1 r2 e1 e2 : Addr), W48 CLevels b a4 a6 y os m H7 p1 d11 e1 p2 d21 e2 (s1'.slot t qu) (s2'.slot t qu) S' ∧ H7 D = some (.lst [.ref r1, .ref r2]) ∧ H7 r1 = some (.lst ((s1'.slot t qu).told.map V.int)) ∧ H7 r2 = some (.lst ((s2'.slot t qu).told.map V.int))) ⟨W6.ex (Ex.new hD), upd_same⟩ ?_ ?_ ?_⟩
        · intro i H7 hi h
          have hi : i ≤ 2 := hi
          have : i = 0 ∨ i = 1 ∨ i = 2 := by omega
          rcases this with rfl | rfl | rfl
          · exact sq_of h.1.h6
          · obtain ⟨_, _, h, _⟩ := h
            exact sq_of h.h6
          · obtain ⟨_, _, _, _, h, _⟩ := h
            exact sq_of h.h6
        · have nD4 : D ≠ a4 := fun z => by rw [z, W6.ho] at hD; cases hD
          have nD6 : D ≠ a6 := fun z => by rw [z, W6.h6] at hD; cases hD
          have nDb : D ≠ b.1 ∧ D ≠ b.2 := ⟨W6.bag.ne hD, W6.bag.ne2 hD⟩
          intro i x H7 hx h
          have hi : i < 2 := (List.getElem?_eq_some_iff.mp hx).1
          have : i = 0 ∨ i = 1 := by omega
          rcases this with rfl | rfl
          · obtain ⟨W7, h7⟩ := h
            cases hx
            refine ⟨rfl, yes_ok _ (Ex.refl _) _ fun H8 e8 => ?_⟩
            rw [if_pos rfl]
            have W8 := W7.ex e8
            have h8 := e8 _ _ h7
            obtain ⟨j1, hj1⟩ := W8.l1.ins
            refine ⟨_, rfl, p1, j1, _, rfl, hj1, lvF_no (by decide +kernel), _, rfl, _, rfl, p1, d11, d12, s1', t, qu, rfl, W8.l1, fun H9 d3 r f9 d30 r0 nr l9 hr9 => ?_⟩
            have rD : r ≠ D := fun z => by rw [z, h8] at r0; cases r0
            have h9 : H9 D = some (.lst []) := f9 _ _ (by simp; exact hne h8 hj1 (fun z => nomatch z)) h8
            refine ⟨[], h9, by decide, r, d3, (W8.act1 (f9.mono (by intro x hx; simp at hx; simp [hx])) l9 (.inr d30)).upd h9 nD4 nD6 nDb, upd_same, rD, by rw [upd_ne rD]; exact hr9⟩
          · obtain ⟨r1, e1, W7, h7, nr1, hr1⟩ := h
            cases hx
            refine ⟨rfl, yes_ok _ (Ex.refl _) _ fun H8 e8 => ?_⟩
            rw [if_pos rfl]
            have W8 := W7.ex e8
            have h8 := e8 _ _ h7
            have hr8 := e8 _ _ hr1
            obtain ⟨j2, hj2⟩ := W8.l2.ins
            refine ⟨_, rfl, p2, j2, _, rfl, hj2, lvF_no (by decide +kernel), _, rfl, _, rfl, p2, d21, d22, s2', t, qu, rfl, W8.l2, fun H9 d3 r f9 d30 r0 nr l9 hr9 => ?_⟩
            have rD : r ≠ D := fun z => by rw [z, h8] at r0; cases r0
            have h9 : H9 D = some (.lst [.ref r1]) := f9 _ _ (by simp; exact hne h8 hj2 (fun z => nomatch z)) h8
            have hr19 : H9 r1 = some (.lst ((s1'.slot t qu).told.map V.int)) := f9 _ _ (by simp; exact hne hr8 hj2 (fun z => nomatch z)) hr8
            refine ⟨[.ref r1], h9, by show 1 < sizeLine; decide, r1, r, e1, d3, (W8.act2 (f9.mono (by intro x hx; simp at hx; simp [hx])) l9 (.inr d30)).upd h9 nD4 nD6 nDb, upd_same, by rw [upd_ne nr1]; exact hr19, by rw [upd_ne rD]; exact hr9⟩
        · rintro H7 ⟨r1, r2, e1, e2, W7, h7, hr1, hr2⟩
          exact qq _ _ ⟨D, r1, r2, e1, e2, rfl, W7, h7, hr1, hr2⟩
      rintro _ H7 ⟨g, r1, r2, e1, e2, rfl, W7, hg, hr1, hr2⟩
      have ok1 := (show LvAt CLevels H6 p1 d11 d12 s1' from W6.l1).ok
      have ok2 := (show LvAt CLevels H6 p2 d21 d22 s2' from W6.l2).ok
      have sm := hsim5.slot ok1 ok2 t qu
      have et := sm.told (ok1.slot t qu) (ok2.slot t qu)
      dsimp only [gName]
      refine q_alikeX (Ev.x (ev_op (ev_var rfl) ev_c (rv_ixL (sq_of hg) (v := .ref r1) rfl))) (S := fun v u H8 => v = .ref r1 ∧ u = .ref r2 ∧ Ex H7 H8) ?_ (fun v u H8 hS => ?_) (fun v u H8 H9 hS e9 => ?_)
      · rintro v H8 ⟨rfl, e8⟩ Q' qq
        exact ev_op (ev_var rfl) ev_c (rv_ixL (sq_of (e8 _ _ hg)) (v := .ref r2) rfl) H8 (Ex.refl _) Q' fun H9 e9 => qq _ _ ⟨rfl, rfl, e8.trans e9⟩
      · obtain ⟨rfl, rfl, e8⟩ := hS
        have small := told_small (ok1.slot t qu)
        exact ⟨.list ((s1'.slot t qu).told.map PyData.int), .lst (sq_of (e8 _ _ hr1)) Dps.ints, .lst (sq_of (e8 _ _ (by rw [et]; exact hr2))) Dps.ints, rep_ints small.1 small.2⟩
      · obtain ⟨rfl, rfl, e8⟩ := hS
        have W9 := (W7.ex e8).ex e9
        obtain ⟨j1, hj1⟩ := W9.l1.ins
        obtain ⟨j2, hj2⟩ := W9.l2.ins
        refine s_alikeX (R := fun v1 H10 => ∃ r1, v1 = .ref r1 ∧ Ex H9 H10 ∧ H10 r1 = some (.lst [.int (s1'.slot t qu).level, optV (s1'.slot t qu).head]))
          (S := fun v1 u1 H10 => ∃ r1 r2, v1 = .ref r1 ∧ u1 = .ref r2 ∧ Ex H9 H10 ∧ H10 r1 = some (.lst [.int (s1'.slot t qu).level, optV (s1'.slot t qu).head]) ∧ H10 r2 = some (.lst [.int (s1'.slot t qu).level, optV (s1'.slot t qu).head])) ?_ ?_ ?_ ?_
        · intro Q' qq
          refine ev_mt (ev_op (ev_var rfl) ev_c (rv_ixL (sq_of W9.h6) rfl)) hj1 (lvF_no (by decide +kernel)) ea_nil (fun H3 e3 Q q E => ⟨p1, d11, e1, _, rfl, W9.l1.ex e3, q⟩) H9 (Ex.refl _) _ fun H10 e10 => ?_
          refine ev_mt (ev_op (ev_var rfl) ev_c (rv_ixL (sq_of (e10 _ _ W9.h6)) rfl)) (e10 _ _ hj1) (lvF_no (by decide +kernel)) ea_nil (fun H3 e3 Q q E => ⟨p1, d11, e1, _, rfl, (W9.l1.ex e10).ex e3, q⟩) H10 (Ex.refl _) _ fun H11 e11 => ?_
          exact ⟨(by show 2 ≤ sizeLine; decide), fun r hr => qq _ _ ⟨r, rfl, (e10.trans e11).trans (Ex.new hr), upd_same⟩⟩
        · rintro v1 H10 ⟨r1, rfl, e10, g1⟩ Q' qq
          have W10 := W9.ex e10
          refine ev_mt (ev_op (ev_var rfl) ev_c (rv_ixL (sq_of W10.h6) rfl)) (e10 _ _ hj2) (lvF_no (by decide +kernel)) ea_nil (fun H3 e3 Q q E => ⟨p2, d21, e2, _, rfl, W10.l2.ex e3, q⟩) H10 (Ex.refl _) _ fun H11 e11 => ?_
          refine ev_mt (ev_op (ev_var rfl) ev_c (rv_ixL (sq_of (e11 _ _ W10.h6)) rfl)) (e11 _ _ (e10 _ _ hj2)) (lvF_no (by decide +kernel)) ea_nil (fun H3 e3 Q q E => ⟨p2, d21, e2, _, rfl, (W10.l2.ex e11).ex e3, q⟩) H11 (Ex.refl _) _ fun H12 e12 => ?_
          rw [← sm.lv, ← sm.hd]
          exact ⟨(by show 2 ≤ sizeLine; decide), fun r hr => qq _ _ ⟨r1, r, rfl, rfl, ((e10.trans e11).trans e12).trans (Ex.new hr), Ex.new hr _ _ (e12 _ _ (e11 _ _ g1)), upd_same⟩⟩
        · rintro v1 u1 H10 ⟨r1, r2, rfl, rfl, e10, g1, g2⟩
          exact ⟨_, dp_lh g1, dp_lh g2, rep_lh (ok1.slot t qu)⟩
        · rintro v1 u1 H10 H11 ⟨r1, r2, rfl, rfl, e10, g1, g2⟩ e11
          exact ⟨t, _, _, _, _, _, _, _, _, p1, d11, e1, p2, d21, e2, _, _, S', rfl, (W9.ex e10).ex e11, sm, hS5, by omega⟩
    · rintro i σ' H' _
      exact s_ret ev_c fun H3 e3 => k _
end
end K48
end
section
set_option Elab.async false
set_option linter.all false
set_option maxRecDepth 100000
set_option maxHeartbeats 4000000
namespace K48
local macro_rules | `(tactic| walk_at "pos") => `(tactic| (show (0 : Int) < _; first | decide | omega))
open PySem PySem.Spec PyProof.Rows L2 Lf 
open Evl
local macro_rules | `(tactic| walk_at "lk") => `(tactic| (simp (disch := decide +kernel) only [lk_hit, lk_miss, lk_nil]))
local macro_rules | `(tactic| walk_at "pf") => `(tactic| (simp (disch := decide +kernel) only [pf_hit, pf_miss, pf_nil]))
theorem all_mk {l : PySem.W.OpenLaw} {w : World} {K : PySem.W.Frag} {h : Heap} {mg : Str → Option Value} {fa f_number_of f_lw_bag f_lw_take f_lw_alike f_lw_said f_lw_shuffled f_Levels__init f_Levels_level f_Levels_head f_Levels_hears f_Levels_at_slot f_Levels_copied f_Levels_find f_law CLevels : Addr} (X : K.In h) (G : h.Ns mainGlobals mg) (hfa : mg "law" = some (.ref fa))
    {oc_number_of kV_number_of dc_number_of pm_number_of cd_number_of ct_number_of oc_lw_bag kV_lw_bag dc_lw_bag pm_lw_bag cd_lw_bag ct_lw_bag oc_lw_take kV_lw_take dc_lw_take pm_lw_take cd_lw_take ct_lw_take oc_lw_alike kV_lw_alike dc_lw_alike pm_lw_alike cd_lw_alike ct_lw_alike oc_lw_said kV_lw_said dc_lw_said pm_lw_said cd_lw_said ct_lw_said oc_lw_shuffled kV_lw_shuffled dc_lw_shuffled pm_lw_shuffled cd_lw_shuffled ct_lw_shuffled oc_Levels__init kV_Levels__init dc_Levels__init pm_Levels__init cd_Levels__init ct_Levels__init oc_Levels_level kV_Levels_level dc_Levels_level pm_Levels_level cd_Levels_level ct_Levels_level oc_Levels_head kV_Levels_head dc_Levels_head pm_Levels_head cd_Levels_head ct_Levels_head oc_Levels_hears kV_Levels_hears dc_Levels_hears pm_Levels_hears cd_Levels_hears ct_Levels_hears oc_Levels_at_slot kV_Levels_at_slot dc_Levels_at_slot pm_Levels_at_slot cd_Levels_at_slot ct_Levels_at_slot oc_Levels_copied kV_Levels_copied dc_Levels_copied pm_Levels_copied cd_Levels_copied ct_Levels_copied oc_Levels_find kV_Levels_find dc_Levels_find pm_Levels_find cd_Levels_find ct_Levels_find oc_law kV_law dc_law pm_law cd_law ct_law : Value} {od_number_of an_number_of od_lw_bag an_lw_bag od_lw_take an_lw_take od_lw_alike an_lw_alike od_lw_said an_lw_said od_lw_shuffled an_lw_shuffled od_Levels__init an_Levels__init od_Levels_level an_Levels_level od_Levels_head an_Levels_head od_Levels_hears an_Levels_hears od_Levels_at_slot an_Levels_at_slot od_Levels_copied an_Levels_copied od_Levels_find an_Levels_find od_law an_law : Option Addr} {sl_number_of sl_lw_bag sl_lw_take sl_lw_alike sl_lw_said sl_lw_shuffled sl_Levels__init sl_Levels_level sl_Levels_head sl_Levels_hears sl_Levels_at_slot sl_Levels_copied sl_Levels_find sl_law : Array (Option Value)}
    (a_number_of : PySem.W.nsIn K mainGlobals "number_of" = some (some (.ref f_number_of)))
    (l_number_of : K.lookup f_number_of = some ⟨oc_number_of, od_number_of, .func (PySem.W.fnOf "number_of" "number_of" (defArgs s_number_of) (defBody s_number_of) (defScope s_number_of) .none kV_number_of dc_number_of pm_number_of an_number_of cd_number_of ct_number_of), sl_number_of⟩)
    (cdi_number_of : PySem.W.codeIn K cd_number_of "number_of" = true)
    (k_number_of : PySem.W.keepIn K (.ref f_number_of) = true)
    (a_lw_bag : PySem.W.nsIn K mainGlobals "_law_bag" = some (some (.ref f_lw_bag)))
    (l_lw_bag : K.lookup f_lw_bag = some ⟨oc_lw_bag, od_lw_bag, .func (PySem.W.fnOf "_law_bag" "_law_bag" (defArgs s_lw_bag) (defBody s_lw_bag) (defScope s_lw_bag) .none kV_lw_bag dc_lw_bag pm_lw_bag an_lw_bag cd_lw_bag ct_lw_bag), sl_lw_bag⟩)
    (cdi_lw_bag : PySem.W.codeIn K cd_lw_bag "_law_bag" = true)
    (k_lw_bag : PySem.W.keepIn K (.ref f_lw_bag) = true)
    (a_lw_take : PySem.W.nsIn K mainGlobals "_law_take" = some (some (.ref f_lw_take)))
    (l_lw_take : K.lookup f_lw_take = some ⟨oc_lw_take, od_lw_take, .func (PySem.W.fnOf "_law_take" "_law_take" (defArgs s_lw_take) (defBody s_lw_take) (defScope s_lw_take) .none kV_lw_take dc_lw_take pm_lw_take an_lw_take cd_lw_take ct_lw_take), sl_lw_take⟩)
    (cdi_lw_take : PySem.W.codeIn K cd_lw_take "_law_take" = true)
    (k_lw_take : PySem.W.keepIn K (.ref f_lw_take) = true)
    (a_lw_alike : PySem.W.nsIn K mainGlobals "_law_alike" = some (some (.ref f_lw_alike)))
    (l_lw_alike : K.lookup f_lw_alike = some ⟨oc_lw_alike, od_lw_alike, .func (PySem.W.fnOf "_law_alike" "_law_alike" (defArgs s_lw_alike) (defBody s_lw_alike) (defScope s_lw_alike) .none kV_lw_alike dc_lw_alike pm_lw_alike an_lw_alike cd_lw_alike ct_lw_alike), sl_lw_alike⟩)
    (cdi_lw_alike : PySem.W.codeIn K cd_lw_alike "_law_alike" = true)
    (k_lw_alike : PySem.W.keepIn K (.ref f_lw_alike) = true)
    (a_lw_said : PySem.W.nsIn K mainGlobals "_law_said" = some (some (.ref f_lw_said)))
    (l_lw_said : K.lookup f_lw_said = some ⟨oc_lw_said, od_lw_said, .func (PySem.W.fnOf "_law_said" "_law_said" (defArgs s_lw_said) (defBody s_lw_said) (defScope s_lw_said) .none kV_lw_said dc_lw_said pm_lw_said an_lw_said cd_lw_said ct_lw_said), sl_lw_said⟩)
    (cdi_lw_said : PySem.W.codeIn K cd_lw_said "_law_said" = true)
    (k_lw_said : PySem.W.keepIn K (.ref f_lw_said) = true)
    (a_lw_shuffled : PySem.W.nsIn K mainGlobals "_law_shuffled" = some (some (.ref f_lw_shuffled)))
    (l_lw_shuffled : K.lookup f_lw_shuffled = some ⟨oc_lw_shuffled, od_lw_shuffled, .func (PySem.W.fnOf "_law_shuffled" "_law_shuffled" (defArgs s_lw_shuffled) (defBody s_lw_shuffled) (defScope s_lw_shuffled) .none kV_lw_shuffled dc_lw_shuffled pm_lw_shuffled an_lw_shuffled cd_lw_shuffled ct_lw_shuffled), sl_lw_shuffled⟩)
    (cdi_lw_shuffled : PySem.W.codeIn K cd_lw_shuffled "_law_shuffled" = true)
    (k_lw_shuffled : PySem.W.keepIn K (.ref f_lw_shuffled) = true)
    (aC_CLevels : PySem.W.nsIn K mainGlobals "Levels" = some (some (.ref CLevels)))
    (pg_CLevels : PySem.W.plainGet K CLevels Str.empty = true)
    (hd_CLevels : PySem.W.hasDictIn K CLevels = true)
    (po_CLevels : PySem.W.plainOver K CLevels = true)
    (sa_CLevels : PySem.W.findIn K (.ref CLevels) "__setattr__" = some (some (.builtin "object.__setattr__")))
    (mk_CLevels : PySem.W.makesIn K CLevels = true)
    (kc_CLevels : PySem.W.keepIn K (.ref CLevels) = true)
    (n_CLevels_place : PySem.W.findIn K (.ref CLevels) "_place" = some none)
    (n_CLevels_many : PySem.W.findIn K (.ref CLevels) "_many" = some none)
    (n_CLevels_level : PySem.W.findIn K (.ref CLevels) "_level" = some none)
    (n_CLevels_head : PySem.W.findIn K (.ref CLevels) "_head" = some none)
    (n_CLevels_spoken : PySem.W.findIn K (.ref CLevels) "_spoken" = some none)
    (n_CLevels_kept : PySem.W.findIn K (.ref CLevels) "_kept" = some none)
    (a_Levels__init : PySem.W.findIn K (.ref CLevels) "__init__" = some (some (.ref f_Levels__init)))
    (i_Levels__init : PySem.W.isFn K (.ref f_Levels__init) = true)
    (l_Levels__init : K.lookup f_Levels__init = some ⟨oc_Levels__init, od_Levels__init, .func (PySem.W.fnOf "__init__" "Levels.__init__" (defArgs s_Levels__init) (defBody s_Levels__init) (defScope s_Levels__init) .none kV_Levels__init dc_Levels__init pm_Levels__init an_Levels__init cd_Levels__init ct_Levels__init), sl_Levels__init⟩)
    (cdi_Levels__init : PySem.W.codeIn K cd_Levels__init "Levels.__init__" = true)
    (k_Levels__init : PySem.W.keepIn K (.ref f_Levels__init) = true)
    (a_Levels_level : PySem.W.findIn K (.ref CLevels) "level" = some (some (.ref f_Levels_level)))
    (i_Levels_level : PySem.W.isFn K (.ref f_Levels_level) = true)
    (l_Levels_level : K.lookup f_Levels_level = some ⟨oc_Levels_level, od_Levels_level, .func (PySem.W.fnOf "level" "Levels.level" (defArgs s_Levels_level) (defBody s_Levels_level) (defScope s_Levels_level) .none kV_Levels_level dc_Levels_level pm_Levels_level an_Levels_level cd_Levels_level ct_Levels_level), sl_Levels_level⟩)
    (cdi_Levels_level : PySem.W.codeIn K cd_Levels_level "Levels.level" = true)
    (k_Levels_level : PySem.W.keepIn K (.ref f_Levels_level) = true)
    (a_Levels_head : PySem.W.findIn K (.ref CLevels) "head" = some (some (.ref f_Levels_head)))
    (i_Levels_head : PySem.W.isFn K (.ref f_Levels_head) = true)
    (l_Levels_head : K.lookup f_Levels_head = some ⟨oc_Levels_head, od_Levels_head, .func (PySem.W.fnOf "head" "Levels.head" (defArgs s_Levels_head) (defBody s_Levels_head) (defScope s_Levels_head) .none kV_Levels_head dc_Levels_head pm_Levels_head an_Levels_head cd_Levels_head ct_Levels_head), sl_Levels_head⟩)
    (cdi_Levels_head : PySem.W.codeIn K cd_Levels_head "Levels.head" = true)
    (k_Levels_head : PySem.W.keepIn K (.ref f_Levels_head) = true)
    (a_Levels_hears : PySem.W.findIn K (.ref CLevels) "hears" = some (some (.ref f_Levels_hears)))
    (i_Levels_hears : PySem.W.isFn K (.ref f_Levels_hears) = true)
    (l_Levels_hears : K.lookup f_Levels_hears = some ⟨oc_Levels_hears, od_Levels_hears, .func (PySem.W.fnOf "hears" "Levels.hears" (defArgs s_Levels_hears) (defBody s_Levels_hears) (defScope s_Levels_hears) .none kV_Levels_hears dc_Levels_hears pm_Levels_hears an_Levels_hears cd_Levels_hears ct_Levels_hears), sl_Levels_hears⟩)
    (cdi_Levels_hears : PySem.W.codeIn K cd_Levels_hears "Levels.hears" = true)
    (k_Levels_hears : PySem.W.keepIn K (.ref f_Levels_hears) = true)
    (a_Levels_at_slot : PySem.W.findIn K (.ref CLevels) "at_slot" = some (some (.ref f_Levels_at_slot)))
    (i_Levels_at_slot : PySem.W.isFn K (.ref f_Levels_at_slot) = true)
    (l_Levels_at_slot : K.lookup f_Levels_at_slot = some ⟨oc_Levels_at_slot, od_Levels_at_slot, .func (PySem.W.fnOf "at_slot" "Levels.at_slot" (defArgs s_Levels_at_slot) (defBody s_Levels_at_slot) (defScope s_Levels_at_slot) .none kV_Levels_at_slot dc_Levels_at_slot pm_Levels_at_slot an_Levels_at_slot cd_Levels_at_slot ct_Levels_at_slot), sl_Levels_at_slot⟩)
    (cdi_Levels_at_slot : PySem.W.codeIn K cd_Levels_at_slot "Levels.at_slot" = true)
    (k_Levels_at_slot : PySem.W.keepIn K (.ref f_Levels_at_slot) = true)
    (a_Levels_copied : PySem.W.findIn K (.ref CLevels) "copied" = some (some (.ref f_Levels_copied)))
    (i_Levels_copied : PySem.W.isFn K (.ref f_Levels_copied) = true)
    (l_Levels_copied : K.lookup f_Levels_copied = some ⟨oc_Levels_copied, od_Levels_copied, .func (PySem.W.fnOf "copied" "Levels.copied" (defArgs s_Levels_copied) (defBody s_Levels_copied) (defScope s_Levels_copied) .none kV_Levels_copied dc_Levels_copied pm_Levels_copied an_Levels_copied cd_Levels_copied ct_Levels_copied), sl_Levels_copied⟩)
    (cdi_Levels_copied : PySem.W.codeIn K cd_Levels_copied "Levels.copied" = true)
    (k_Levels_copied : PySem.W.keepIn K (.ref f_Levels_copied) = true)
    (a_Levels_find : PySem.W.findIn K (.ref CLevels) "_find" = some (some (.ref f_Levels_find)))
    (i_Levels_find : PySem.W.isFn K (.ref f_Levels_find) = true)
    (l_Levels_find : K.lookup f_Levels_find = some ⟨oc_Levels_find, od_Levels_find, .func (PySem.W.fnOf "_find" "Levels._find" (defArgs s_Levels_find) (defBody s_Levels_find) (defScope s_Levels_find) .none kV_Levels_find dc_Levels_find pm_Levels_find an_Levels_find cd_Levels_find ct_Levels_find), sl_Levels_find⟩)
    (cdi_Levels_find : PySem.W.codeIn K cd_Levels_find "Levels._find" = true)
    (k_Levels_find : PySem.W.keepIn K (.ref f_Levels_find) = true)
    (z_abs : PySem.W.nsIn K mainGlobals "abs" = some none)
    (z_bool : PySem.W.nsIn K mainGlobals "bool" = some none)
    (z_dict : PySem.W.nsIn K mainGlobals "dict" = some none)
    (z_int : PySem.W.nsIn K mainGlobals "int" = some none)
    (z_isinstance : PySem.W.nsIn K mainGlobals "isinstance" = some none)
    (z_len : PySem.W.nsIn K mainGlobals "len" = some none)
    (z_list : PySem.W.nsIn K mainGlobals "list" = some none)
    (z_max : PySem.W.nsIn K mainGlobals "max" = some none)
    (z_min : PySem.W.nsIn K mainGlobals "min" = some none)
    (z_range : PySem.W.nsIn K mainGlobals "range" = some none)
    (z_repr : PySem.W.nsIn K mainGlobals "repr" = some none)
    (z_sorted : PySem.W.nsIn K mainGlobals "sorted" = some none)
    (a_law : PySem.W.nsIn K mainGlobals "law" = some (some (.ref f_law)))
    (l_law : K.lookup f_law = some ⟨oc_law, od_law, .func (PySem.W.fnOf "law" "law" (defArgs s_law) (defBody s_law) (defScope s_law) .none kV_law dc_law pm_law an_law cd_law ct_law), sl_law⟩)
    (cdi_law : PySem.W.codeIn K cd_law "law" = true)
    (k_law : PySem.W.keepIn K (.ref f_law) = true)
    : ∃ fd : FuncData, (∀ (s : Shared) (v : Value), BindsTo s fd ⟨[v], []⟩ [("_law_script", v)]) ∧ ∀ base : Heap, K.In base → base.Ns mainGlobals mg → Fn l.prog w K mg base CX0 7 fa fd ["_law_script"] (spLaw K) := by
  have e := hfa.symm.trans (PySem.W.mg_of X G a_law)
  cases e
  have F_number_of := fun_mk (st := s_number_of) l_number_of cdi_number_of k_number_of
  have b_number_of := F_number_of.binds (ps := ["thing"]) fun _ _ _ _ _ _ us hl => match us, hl with | [_], _ => rfl
  have F_lw_bag := fun_mk (st := s_lw_bag) l_lw_bag cdi_lw_bag k_lw_bag
  have b_lw_bag := F_lw_bag.binds (ps := ["_law_script"]) fun _ _ _ _ _ _ us hl => match us, hl with | [_], _ => rfl
  have F_lw_take := fun_mk (st := s_lw_take) l_lw_take cdi_lw_take k_lw_take
  have b_lw_take := F_lw_take.binds (ps := ["_law_bag_here", "_law_many"]) fun _ _ _ _ _ _ us hl => match us, hl with | [_, _], _ => rfl
  have F_lw_alike := fun_mk (st := s_lw_alike) l_lw_alike cdi_lw_alike k_lw_alike
  have b_lw_alike := F_lw_alike.binds (ps := ["_law_found", "_law_due"]) fun _ _ _ _ _ _ us hl => match us, hl with | [_, _], _ => rfl
  have F_lw_said := fun_mk (st := s_lw_said) l_lw_said cdi_lw_said k_lw_said
  have b_lw_said := F_lw_said.binds (ps := ["_law_bag_here", "_law_others", "_law_many", "_law_turn", "_law_spoken"]) fun _ _ _ _ _ _ us hl => match us, hl with | [_, _, _, _, _], _ => rfl
  have F_lw_shuffled := fun_mk (st := s_lw_shuffled) l_lw_shuffled cdi_lw_shuffled k_lw_shuffled
  have b_lw_shuffled := F_lw_shuffled.binds (ps := ["_law_bag_here", "_law_rows"]) fun _ _ _ _ _ _ us hl => match us, hl with | [_, _], _ => rfl
  have F_Levels__init := fun_mk (st := s_Levels__init) l_Levels__init cdi_Levels__init k_Levels__init
  have b_Levels__init := F_Levels__init.binds (ps := ["self", "place", "many"]) fun _ _ _ _ _ _ us hl => match us, hl with | [_, _, _], _ => rfl
  have F_Levels_level := fun_mk (st := s_Levels_level) l_Levels_level cdi_Levels_level k_Levels_level
  have b_Levels_level := F_Levels_level.binds (ps := ["self"]) fun _ _ _ _ _ _ us hl => match us, hl with | [_], _ => rfl
  have F_Levels_head := fun_mk (st := s_Levels_head) l_Levels_head cdi_Levels_head k_Levels_head
  have b_Levels_head := F_Levels_head.binds (ps := ["self"]) fun _ _ _ _ _ _ us hl => match us, hl with | [_], _ => rfl
  have F_Levels_hears := fun_mk (st := s_Levels_hears) l_Levels_hears cdi_Levels_hears k_Levels_hears
  have b_Levels_hears := F_Levels_hears.binds (ps := ["self", "neighbour", "level", "turn"]) fun _ _ _ _ _ _ us hl => match us, hl with | [_, _, _, _], _ => rfl
  have F_Levels_at_slot := fun_mk (st := s_Levels_at_slot) l_Levels_at_slot cdi_Levels_at_slot k_Levels_at_slot
  have b_Levels_at_slot := F_Levels_at_slot.binds (ps := ["self", "turn", "quiet"]) fun _ _ _ _ _ _ us hl => match us, hl with | [_, _, _], _ => rfl
  have F_Levels_copied := fun_mk (st := s_Levels_copied) l_Levels_copied cdi_Levels_copied k_Levels_copied
  have b_Levels_copied := F_Levels_copied.binds (ps := ["self"]) fun _ _ _ _ _ _ us hl => match us, hl with | [_], _ => rfl
  have F_Levels_find := fun_mk (st := s_Levels_find) l_Levels_find cdi_Levels_find k_Levels_find
  have b_Levels_find := F_Levels_find.binds (ps := ["self"]) fun _ _ _ _ _ _ us hl => match us, hl with | [_], _ => rfl
  have F_law := fun_mk (st := s_law) l_law cdi_law k_law
  have T : Top K mg CLevels := {
    d_number_of := ⟨_, _, F_number_of, PySem.W.mg_of X G a_number_of, b_number_of⟩,
    d_lw_bag := ⟨_, _, F_lw_bag, PySem.W.mg_of X G a_lw_bag, b_lw_bag⟩,
    d_lw_take := ⟨_, _, F_lw_take, PySem.W.mg_of X G a_lw_take, b_lw_take⟩,
    d_lw_alike := ⟨_, _, F_lw_alike, PySem.W.mg_of X G a_lw_alike, b_lw_alike⟩,
    d_lw_said := ⟨_, _, F_lw_said, PySem.W.mg_of X G a_lw_said, b_lw_said⟩,
    d_lw_shuffled := ⟨_, _, F_lw_shuffled, PySem.W.mg_of X G a_lw_shuffled, b_lw_shuffled⟩,
    cl_Levels := ⟨pg_CLevels, hd_CLevels, po_CLevels, sa_CLevels⟩,
    hm_Levels := PySem.W.mg_of X G aC_CLevels,
    mk_Levels := fun f me => ⟨mk_CLevels, me.at_, me.fn, kc_CLevels⟩,
    a_Levels_place := n_CLevels_place,
    a_Levels_many := n_CLevels_many,
    a_Levels_level := n_CLevels_level,
    a_Levels_head := n_CLevels_head,
    a_Levels_spoken := n_CLevels_spoken,
    a_Levels_kept := n_CLevels_kept,
    d_Levels__init := ⟨_, _, F_Levels__init, ⟨a_Levels__init, i_Levels__init, k_Levels__init⟩, b_Levels__init⟩,
    d_Levels_level := ⟨_, _, F_Levels_level, ⟨a_Levels_level, i_Levels_level, k_Levels_level⟩, b_Levels_level⟩,
    d_Levels_head := ⟨_, _, F_Levels_head, ⟨a_Levels_head, i_Levels_head, k_Levels_head⟩, b_Levels_head⟩,
    d_Levels_hears := ⟨_, _, F_Levels_hears, ⟨a_Levels_hears, i_Levels_hears, k_Levels_hears⟩, b_Levels_hears⟩,
    d_Levels_at_slot := ⟨_, _, F_Levels_at_slot, ⟨a_Levels_at_slot, i_Levels_at_slot, k_Levels_at_slot⟩, b_Levels_at_slot⟩,
    d_Levels_copied := ⟨_, _, F_Levels_copied, ⟨a_Levels_copied, i_Levels_copied, k_Levels_copied⟩, b_Levels_copied⟩,
    d_Levels_find := ⟨_, _, F_Levels_find, ⟨a_Levels_find, i_Levels_find, k_Levels_find⟩, b_Levels_find⟩,
    n_abs := PySem.W.mg_none_of X G z_abs,
    n_bool := PySem.W.mg_none_of X G z_bool,
    n_dict := PySem.W.mg_none_of X G z_dict,
    n_int := PySem.W.mg_none_of X G z_int,
    n_isinstance := PySem.W.mg_none_of X G z_isinstance,
    n_len := PySem.W.mg_none_of X G z_len,
    n_list := PySem.W.mg_none_of X G z_list,
    n_max := PySem.W.mg_none_of X G z_max,
    n_min := PySem.W.mg_none_of X G z_min,
    n_range := PySem.W.mg_none_of X G z_range,
    n_repr := PySem.W.mg_none_of X G z_repr,
    n_sorted := PySem.W.mg_none_of X G z_sorted }
  refine ⟨PySem.W.fnOf "law" "law" (defArgs s_law) (defBody s_law) (defScope s_law) .none kV_law dc_law pm_law an_law cd_law ct_law, fun s v => .of_eq rfl, fun base _ _ => ?_⟩
  exact f_law T F_law
end K48
open PySem PySem.W PyProof.Rows in
set_option maxRecDepth 100000 in
set_option maxHeartbeats 0 in
theorem PySem.Challenge.cw_listenfield_k48_whole_any_order_between_holds : PySem.Challenge.rw_listenfield_k48_whole_any_order_between.Holds := by
  w_on; o_law; k_head; (case hw => w_witness2)
  k_fill
  refine Lf.walkG (l := PySem.Challenge.rw_listenfield_k48_whole_any_order_between) (k := 7) (x := "_law_script") (sp := fun w => Lf.spLaw _) rfl rfl ⟨rfl, by decide, by decide⟩ (fun w h Y => PySem.W.kIn_of Y) ?F (fun _ _ a ns hl _ hS => ⟨a, ns, rfl, hS, hl, fun _ => rfl⟩)
  case F =>
    intro w mg fa h KX G hmg
    refine' K48.all_mk KX G hmg ?a_number_of ?l_number_of ?cdi_number_of ?k_number_of ?a_lw_bag ?l_lw_bag ?cdi_lw_bag ?k_lw_bag ?a_lw_take ?l_lw_take ?cdi_lw_take ?k_lw_take ?a_lw_alike ?l_lw_alike ?cdi_lw_alike ?k_lw_alike ?a_lw_said ?l_lw_said ?cdi_lw_said ?k_lw_said ?a_lw_shuffled ?l_lw_shuffled ?cdi_lw_shuffled ?k_lw_shuffled ?aC_CLevels ?pg_CLevels ?hd_CLevels ?po_CLevels ?sa_CLevels ?mk_CLevels ?kc_CLevels ?n_CLevels_place ?n_CLevels_many ?n_CLevels_level ?n_CLevels_head ?n_CLevels_spoken ?n_CLevels_kept ?a_Levels__init ?i_Levels__init ?l_Levels__init ?cdi_Levels__init ?k_Levels__init ?a_Levels_level ?i_Levels_level ?l_Levels_level ?cdi_Levels_level ?k_Levels_level ?a_Levels_head ?i_Levels_head ?l_Levels_head ?cdi_Levels_head ?k_Levels_head ?a_Levels_hears ?i_Levels_hears ?l_Levels_hears ?cdi_Levels_hears ?k_Levels_hears ?a_Levels_at_slot ?i_Levels_at_slot ?l_Levels_at_slot ?cdi_Levels_at_slot ?k_Levels_at_slot ?a_Levels_copied ?i_Levels_copied ?l_Levels_copied ?cdi_Levels_copied ?k_Levels_copied ?a_Levels_find ?i_Levels_find ?l_Levels_find ?cdi_Levels_find ?k_Levels_find ?z_abs ?z_bool ?z_dict ?z_int ?z_isinstance ?z_len ?z_list ?z_max ?z_min ?z_range ?z_repr ?z_sorted ?a_law ?l_law ?cdi_law ?k_law
    (case a_number_of => k_is)
    (case l_number_of => k_is)
    (case cdi_number_of => k_is)
    (case k_number_of => k_is)
    (case a_lw_bag => k_is)
    (case l_lw_bag => k_is)
    (case cdi_lw_bag => k_is)
    (case k_lw_bag => k_is)
    (case a_lw_take => k_is)
    (case l_lw_take => k_is)
    (case cdi_lw_take => k_is)
    (case k_lw_take => k_is)
    (case a_lw_alike => k_is)
    (case l_lw_alike => k_is)
    (case cdi_lw_alike => k_is)
    (case k_lw_alike => k_is)
    (case a_lw_said => k_is)
    (case l_lw_said => k_is)
    (case cdi_lw_said => k_is)
    (case k_lw_said => k_is)
    (case a_lw_shuffled => k_is)
    (case l_lw_shuffled => k_is)
    (case cdi_lw_shuffled => k_is)
    (case k_lw_shuffled => k_is)
    (case aC_CLevels => k_is)
    (case pg_CLevels => k_is)
    (case hd_CLevels => k_is)
    (case po_CLevels => k_is)
    (case sa_CLevels => k_is)
    (case mk_CLevels => k_is)
    (case kc_CLevels => k_is)
    (case n_CLevels_place => k_is)
    (case n_CLevels_many => k_is)
    (case n_CLevels_level => k_is)
    (case n_CLevels_head => k_is)
    (case n_CLevels_spoken => k_is)
    (case n_CLevels_kept => k_is)
    (case a_Levels__init => k_is)
    (case i_Levels__init => k_is)
    (case l_Levels__init => k_is)
    (case cdi_Levels__init => k_is)
    (case k_Levels__init => k_is)
    (case a_Levels_level => k_is)
    (case i_Levels_level => k_is)
    (case l_Levels_level => k_is)
    (case cdi_Levels_level => k_is)
    (case k_Levels_level => k_is)
    (case a_Levels_head => k_is)
    (case i_Levels_head => k_is)
    (case l_Levels_head => k_is)
    (case cdi_Levels_head => k_is)
    (case k_Levels_head => k_is)
    (case a_Levels_hears => k_is)
    (case i_Levels_hears => k_is)
    (case l_Levels_hears => k_is)
    (case cdi_Levels_hears => k_is)
    (case k_Levels_hears => k_is)
    (case a_Levels_at_slot => k_is)
    (case i_Levels_at_slot => k_is)
    (case l_Levels_at_slot => k_is)
    (case cdi_Levels_at_slot => k_is)
    (case k_Levels_at_slot => k_is)
    (case a_Levels_copied => k_is)
    (case i_Levels_copied => k_is)
    (case l_Levels_copied => k_is)
    (case cdi_Levels_copied => k_is)
    (case k_Levels_copied => k_is)
    (case a_Levels_find => k_is)
    (case i_Levels_find => k_is)
    (case l_Levels_find => k_is)
    (case cdi_Levels_find => k_is)
    (case k_Levels_find => k_is)
    (case z_abs => k_is)
    (case z_bool => k_is)
    (case z_dict => k_is)
    (case z_int => k_is)
    (case z_isinstance => k_is)
    (case z_len => k_is)
    (case z_list => k_is)
    (case z_max => k_is)
    (case z_min => k_is)
    (case z_range => k_is)
    (case z_repr => k_is)
    (case z_sorted => k_is)
    (case a_law => k_is)
    (case l_law => k_is)
    (case cdi_law => k_is)
    (case k_law => k_is)
end
