import PyProof.Rows.All
import Wide.All
import OpenK.AllK
import Wide.FinOn
import HandS.ForMost
import HandS.Sort
import HandS.IsInst
import HandS.Deep
import HandS.TupAny
import HandS.TryOnly
import HandS.Style
import HandS.Flow
import HandS.Codes
import HandS.Evl
import HandS.SortInts
import HandS.Wide
import HandS.Gcd
import KE.KSortedM
import KE.DataMinMax
import KE.SortData
import HandS.DictComp
import HandS.More
import HandS.Walk
import HandS.DictTup
import PyProof.DictMoreH
import HandS.Conv
import PyProof.CollectIter
import HandS.Star
import PySem.Challenge.RW_listenfield_k62_windows_by_turns
section
set_option Elab.async false
set_option linter.all false
set_option maxRecDepth 100000
set_option maxHeartbeats 4000000
/-! Lf: rules and words of our own over the hand layer (listenfield laws). -/
namespace Lf
open PySem PySem.Spec PyProof.Rows L2
theorem q_rng_item (r : Addr) (a b i : Int) (t u v k : Tok) (j : Int) (hj : j = if i < 0 then i + Builtin.Range.rangeSize a b 1 else i) (h0 : 0 ≤ j) (h1 : j < Builtin.Range.rangeSize a b 1) :
    Meets (Builtin.«range.__getitem__» ⟨[.ref r, .int i k], []⟩) (fun _ R s => s.heap.get? r = some { cls := .type "range", dict := none, data := .fields #[.int a t, .int b u, .int 1 v], slots := #[] } ∧ R (.ok (.ret (.int (a + j * 1) s.toks))) { s with toks := s.toks + 1 }) :=
  .of_wp fun prog w A R s h => by
    obtain ⟨hp, g, d, tk, os⟩ := s; obtain ⟨hl, h⟩ := h
    have e : (decide (j < 0) || decide (j ≥ Builtin.Range.rangeSize a b 1)) = false := by
      rw [decide_eq_false (by omega), decide_eq_false (by omega)]; rfl
    have f1 := PySem.AutoSeq1.idx_int
    wp_walk
    rw [← hj, e]
    wp_walk
    exact ⟨_, rfl, h⟩
theorem get_rng {prog : Program} {w : World} {A : Around} {E : Value → Shared → Prop} {s : Shared} {r : Addr} {a b i : Int} {t u v k : Tok} {Q : Value → Shared → Prop} (ho : s.heap.get? r = some { cls := .type "range", dict := none, data := .fields #[.int a t, .int b u, .int 1 v], slots := #[] }) (j : Int) (hj : j = if i < 0 then i + Builtin.Range.rangeSize a b 1 else i) (h0 : 0 ≤ j) (h1 : j < Builtin.Range.rangeSize a b 1)
    (h : Q (.int (a + j * 1) s.toks) { s with toks := s.toks + 1 }) : wpAny (model prog w) A (getItem (.ref r) (.int i k)) Q E s := by
  have hT : s.TypeIs (.ref r) "range" := ⟨_, ho, rfl⟩
  exact wpAny_getItem_slot hT (by decide +kernel) F.slot_range_getitem (call_meets F.slot_range_getitem hT F.entry_range_getitem (F.args_range_getitem_2 _ _) (q_rng_item r a b i t u v k j hj h0 h1) ⟨ho, h⟩)
section
variable {X : Cx}
/-- r[i] of a range object, i from 0 or from the end -/
def rIxR : R2 := fun x y H Q => ∃ p lo hi i j, x = .ref p ∧ y = .int i ∧ H p = some (.rng lo hi) ∧ (j = if i < 0 then i + (hi - lo) else i) ∧ (0 ≤ j ∧ lo + j < hi) ∧ Q (.int (lo + j)) H
theorem ix_rng : IxR X rIxR := by
  intro value slice pins s σ H x y v u Q I rx ry h hs
  obtain ⟨p, lo, hi, i, j, rfl, rfl, hq, hj, ⟨h0, h1⟩, q⟩ := h
  cases rx
  obtain ⟨k, rfl⟩ := ry
  obtain ⟨t1, t2, t3, ho⟩ := I.hok p _ hq
  have hT : s.TypeIs (.ref p) "range" := ⟨_, ho, rfl⟩
  have hz : Builtin.Range.rangeSize lo hi 1 = hi - lo := by rw [rangeSize_one, if_pos (by omega)]
  refine tail_any hT F.slot_range_getitem.lookup (get_rng ho j (by rw [hz]; exact hj) h0 (by omega) ⟨.int (lo + j), H, I.tok _, ?_, q⟩) hs
  rw [Int.mul_one]
  exact ⟨_, rfl⟩
/-- xs[i], by values -/
theorem get_list : PGet X (rIxL X.K) := by
  intro pins s σ H x y v u Q I rx ry h
  obtain ⟨p, xs, i, z, rfl, rfl, hq, he, q⟩ := h
  cases rx
  obtain ⟨t, rfl⟩ := ry
  obtain ⟨its, r, pl, hz⟩ := I.list hq
  obtain ⟨j, h1, h2, h3, h4, h5⟩ := atI_get he
  obtain ⟨w, ew, rw'⟩ := r.get h2
  have hl := r.length
  have hn := line63
  have fin : EP X pins σ Q w s := ⟨z, H, I, rw', q⟩
  by_cases h0 : 0 ≤ i
  · have hj : i.toNat = j := by
      rw [seqIndex_of h0 h5] at h1
      exact Option.some.inj h1
    exact wpAny_getItem_list pl.isList h0 (by omega) (by rw [hj]; simpa using ew) fin
  · have hj : (i + (its.toArray.size : Int)).toNat = j := by
      rw [seqIndex_neg (by omega) h4] at h1
      rw [List.size_toArray, ← hl]
      exact Option.some.inj h1
    exact wpAny_getItem_list_neg pl.isList (by omega) (by rw [List.size_toArray] <;> omega) (by omega) (by rw [hj]; simpa using ew) fin
/-- range(n) as a value -/
theorem cr_range1 : CallR X (.type "range") (fun vs H Q => ∃ j, vs = [V.int j] ∧ ∀ p, H p = none → Q (.ref p) (upd H p (.rng 0 j))) := by
  intro pins s σ H vs us Q I r h
  obtain ⟨j, rfl, q⟩ := h
  obtain ⟨u1, rfl, t, rfl⟩ := vals1 r
  refine call_range_1 ⟨.ref s.heap.objs.size, upd H s.heap.objs.size (.rng 0 j), I.laid (t' := s.toks + 1 + 1) (fun b o e => Heap.get?_push_of_some _ e) (Nat.le_refl _) ?_, rfl, q _ (I.hok.fresh (Nat.le_refl _))⟩
  exact ⟨s.toks, t, s.toks + 1, Heap.get?_push_size _ rfl⟩
end

/-! ### defs under known guards: repr of a list asks that nobody is being shown around it -/
structure Fn (P : Program) (w : World) (K : PySem.W.Frag) (mg : Str → Option Value) (base : Heap) (CX : CXT) (k : Nat) (f : Addr) (fd : FuncData) (ps : List Str) (sp : Sp) : Prop where
  many : ∀ vs H Q E, sp vs H Q E → vs.length = ps.length
  go : ∀ (A : Around) (outer : List Env) (s : Shared) (H : Hp) (args : Args) (us : List Value) (vs : List V) (Q : VK) (E : XK), A.guards = some [] → Room k A →
    Env0 P w K mg base A outer s H → BindsTo s fd args (ps.zip us) → Vals vs us → sp vs H Q E → codeAny (model P w) A (.call (.ref f) args) (CR CX outer P w H s Q E) s
section
variable {X : Cx} {CX : CXT} {k j : Nat} {f C : Addr} {fd : FuncData} {ps : List Str} {sp : Sp} {E : XK}
theorem Fn.ran {pins : List (Addr × Obj)} {σ : L2.St} {H : Hp} {s : Shared} {Q : VK} {us : List Value} {vs : List V} (F : Fn X.prog X.w X.K X.mg X.base CX k f fd ps sp) (g : X.A.guards = some []) (hr : Room k X.A)
    (hb : Binds X.K fd ps []) (hx : Passes CX X E) (I : Inv X pins σ H s) (r : Vals vs us) (h : sp vs H Q E) : wpAny (model X.prog X.w) X.A (call (.ref f) us) (EP X pins σ Q) X.xe s := by
  have n1 : us.length = ps.length := by
    rw [← F.many _ _ _ _ h]
    exact r.length.symm
  have b1 := hb s us I.kIn (by rw [List.append_nil]; exact n1)
  rw [List.append_nil] at b1
  refine wpAny_call (codeAny_mono (F.go _ _ _ _ _ us vs Q E g hr I.env0 b1 r h) ?_)
  intro res s' hq
  rcases res with e | fl
  · exact hx _ _ _ _ _ _ I hq
  · cases fl
    case ret u => exact I.after hq
    all_goals exact hq.elim
theorem Fn.made {pins : List (Addr × Obj)} {σ : L2.St} {H : Hp} {s : Shared} {Q : VK} {us : List Value} {vs : List V} (M : Mk X.K C f) (F : Fn X.prog X.w X.K X.mg X.base CX k f fd ps sp) (g : X.A.guards = some []) (hr : Room (k + 1) X.A)
    (hb : Binds X.K fd ps []) (hx : Passes CX X E) (I : Inv X pins σ H s) (r : Vals vs us)
    (h : ∀ x dx, H x = none → H dx = none → dx ≠ x → sp (.ref x :: vs) (upd (upd H dx (.own x)) x (.ins C dx [])) (fun v H2 => v = .non ∧ Q (.ref x) H2) E) :
    wpAny (model X.prog X.w) X.A (call (.ref C) us) (EP X pins σ Q) X.xe s := by
  have f0 : H s.heap.objs.size = none := I.hok.fresh (Nat.le_refl _)
  have f1 : H (s.heap.objs.size + 1) = none := I.hok.fresh (Nat.le_succ _)
  have h1 := h _ _ f1 f0 (Nat.ne_of_lt (Nat.lt_succ_self _))
  have I1 := Inv.made (C := C) I
  have r1 : Vals (V.ref (s.heap.objs.size + 1) :: vs) (Value.ref (s.heap.objs.size + 1) :: us) := .cons rfl r
  have n1 : (Value.ref (s.heap.objs.size + 1) :: us).length = ps.length := by
    rw [← F.many _ _ _ _ h1]
    exact r1.length.symm
  have b1 := hb _ _ I1.kIn (show (Value.ref (s.heap.objs.size + 1) :: us ++ []).length = ps.length by rw [List.append_nil]; exact n1)
  rw [List.append_nil] at b1
  have g1 : (X.A.under (.builtin "type.__call__" ⟨.ref C :: us, []⟩)).guards = some [] := by
    unfold Around.under
    simp only [g]
    first | rfl | simp [pushGuards, Code.guards, Code.isGuard, guardIds]
  refine wpAny_call (make_map (f := f) I.kIn M.makes M.init (beq_iff_eq.mp M.fn) (codeAny_mono (F.go _ _ _ _ _ _ _ _ E g1 (hr.make C us []) (I1.env0.make C us []) b1 r1 h1) ?_))
  intro res s' hq
  rcases res with e | fl
  · exact hx _ _ _ _ _ _ I1 hq
  · cases fl
    case ret u =>
      obtain ⟨v, H', I2, rv, ev, q2⟩ := I1.after hq
      subst ev
      exact ⟨rv, ⟨V.ref (s.heap.objs.size + 1), H', I2, rfl, q2⟩⟩
    all_goals exact hq.elim
end
/-- a def that may be called by its name -/
structure Cal (P : Program) (w : World) (K : PySem.W.Frag) (mg : Str → Option Value) (base : Heap) (CX : CXT) (k : Nat) (x : Str) (sp : Sp) : Prop where
  ex : ∃ (f : Addr) (fd : FuncData) (ps : List Str), Fn P w K mg base CX k f fd ps sp ∧ mg x = some (.ref f) ∧ PySem.W.keepIn K (.ref f) = true ∧ Binds K fd ps []
/-- a method of the class at C -/
structure Met (P : Program) (w : World) (K : PySem.W.Frag) (mg : Str → Option Value) (base : Heap) (CX : CXT) (k : Nat) (C : Addr) (m : Str) (sp : Sp) : Prop where
  ex : ∃ (f : Addr) (fd : FuncData) (ps : List Str), Cls K C ∧ Meth K C m f ∧ Fn P w K mg base CX k f fd ps sp ∧ Binds K fd ps []
/-- a class that is made by its name, sp its __init__ -/
structure Mak (P : Program) (w : World) (K : PySem.W.Frag) (mg : Str → Option Value) (base : Heap) (CX : CXT) (k : Nat) (x : Str) (C : Addr) (sp : Sp) : Prop where
  ex : ∃ (f : Addr) (fd : FuncData) (ps : List Str), Mk K C f ∧ Fn P w K mg base CX k f fd ps sp ∧ mg x = some (.ref C) ∧ Binds K fd ps []
section
variable {X : Cx} {CX : CXT} {k j : Nat} {C : Addr} {sp : Sp} {E : XK} {x m : Str} {p pos apos : Pos} {e o : Expr} {es : List Expr} {ta : TE} {t : TA}
def tCl (sp : Sp) (E : XK) (t : TA) : TE := fun σ H Q => t σ H fun vs H1 => sp vs H1 Q E
def tMt (C : Addr) (m : Str) (sp : Sp) (E : XK) (ta : TE) (t : TA) : TE := fun σ H Q => ta σ H fun x H1 => ∃ a dx fs, x = .ref a ∧ H1 a = some (.ins C dx fs) ∧ fs.lookup m = none ∧ t σ H1 fun vs H2 => sp (x :: vs) H2 Q E
def tMk (C : Addr) (sp : Sp) (E : XK) (t : TA) : TE := fun σ H Q => t σ H fun vs H1 => ∀ x dx, H1 x = none → H1 dx = none → dx ≠ x → sp (.ref x :: vs) (upd (upd H1 dx (.own x)) x (.ins C dx [])) (fun v H2 => v = .non ∧ Q (.ref x) H2) E
theorem ec (c : Cal X.prog X.w X.K X.mg X.base CX k x sp) (g : X.A.guards = some []) (hr : Room j X.A) (hk : k ≤ j) (hx : Passes CX X E) (hg : Gl X x) (ha : PA X (e :: es) t)
    (hdb : (x == ("__debug__" : Str)) = false := by decide) (he : starEach (e :: es) X.env = (false, eval e X.env) :: starEach es X.env := by rfl) (hpl : (backTo pos (starEach es X.env)).any (·.1) = false := by rfl) :
    PE X (.Call (.Name x p) (e :: es) [] pos) (tCl sp E t) := by
  obtain ⟨f, fd, ps, F, hm, kp, b⟩ := c.ex
  constructor
  intro pins s σ H Q I h
  apply wpAny_Call_Name_kw
  refine ld_glob I hg hm (PySem.W.callWith_K (h₀ := X.base) I.ok.mod.kin kp (thn (ha.run pos pins s σ H _ I h) ?_) he hpl) hdb
  rintro us s1 ⟨vs, H1, I1, r, q⟩
  exact ⟨I1.kIn, F.ran g (hr.mono hk) b hx I1 r q⟩
theorem emk (c : Mak X.prog X.w X.K X.mg X.base CX k x C sp) (g : X.A.guards = some []) (hr : Room j X.A) (hk : k + 1 ≤ j) (hx : Passes CX X E) (hg : Gl X x) (ha : PA X (e :: es) t)
    (hdb : (x == ("__debug__" : Str)) = false := by decide) (he : starEach (e :: es) X.env = (false, eval e X.env) :: starEach es X.env := by rfl) (hpl : (backTo pos (starEach es X.env)).any (·.1) = false := by rfl) :
    PE X (.Call (.Name x p) (e :: es) [] pos) (tMk C sp E t) := by
  obtain ⟨f, fd, ps, M, F, hm, b⟩ := c.ex
  constructor
  intro pins s σ H Q I h
  apply wpAny_Call_Name_kw
  refine ld_glob I hg hm (PySem.W.callWith_K (h₀ := X.base) I.ok.mod.kin M.kp (thn (ha.run pos pins s σ H _ I h) ?_) he hpl) hdb
  rintro us s1 ⟨vs, H1, I1, r, q⟩
  exact ⟨I1.kIn, F.made M g (hr.mono hk) b hx I1 r q⟩
theorem emt {pl : Sem Bool} (c : Met X.prog X.w X.K X.mg X.base CX k C m sp) (g : X.A.guards = some []) (hr : Room j X.A) (hk : k ≤ j) (hx : Passes CX X E) (he : PE X o ta) (ha : PA X (e :: es) t)
    (hst : starEach (e :: es) X.env = (false, eval e X.env) :: starEach es X.env := by rfl) (hpl : (backTo pos (starEach es X.env)).any (·.1) = false := by rfl)
    (ht : eval (.Call (.Attribute o m apos) (e :: es) [] pos) X.env = (do
      let ov ← eval o X.env
      standAt apos.atName
      let (f, first) ← holding [ov] (getMethod ov m pl)
      callWith pos f first (backTo pos (starEach (e :: es) X.env)) (backToKw pos (keywordEach [] X.env))) := by rfl) :
    PE X (.Call (.Attribute o m apos) (e :: es) [] pos) (tMt C m sp E ta t) := by
  obtain ⟨f, fd, ps, hc, hm, F, b⟩ := c.ex
  constructor
  intro pins s σ H Q I h
  refine PySem.W.methodCall_KW (pl := pl) (thn (he.run pins s σ H _ I h) ?_) ht
  rintro u s1 ⟨x, H1, I1, rx, a, dx, fs, rfl, ea, l, q⟩
  obtain rfl : u = Value.ref a := rx
  refine getmeth_ok I1 ea hc hm l (PySem.W.callWith_K (first := [.ref a]) (h₀ := X.base) I.ok.mod.kin hm.kp (thn (ha.run pos pins s1 σ H1 _ I1 q) ?_) hst hpl)
  rintro us s2 ⟨vs, H2, I2, r, q2⟩
  exact ⟨I2.kIn, F.ran (us := .ref a :: us) (vs := .ref a :: vs) g (hr.mono hk) b hx I2 (.cons rfl r) q2⟩
theorem emt0 {pl : Sem Bool} (c : Met X.prog X.w X.K X.mg X.base CX k C m sp) (g : X.A.guards = some []) (hr : Room j X.A) (hk : k ≤ j) (hx : Passes CX X E) (he : PE X o ta)
    (ht : eval (.Call (.Attribute o m apos) [] [] pos) X.env = (do
      let ov ← eval o X.env
      standAt apos.atName
      let (f, first) ← holding [ov] (getMethod ov m pl)
      callWith pos f first (backTo pos (starEach [] X.env)) (backToKw pos (keywordEach [] X.env))) := by rfl) :
    PE X (.Call (.Attribute o m apos) [] [] pos) (tMt C m sp E ta tNil) := by
  obtain ⟨f, fd, ps, hc, hm, F, b⟩ := c.ex
  constructor
  intro pins s σ H Q I h
  refine PySem.W.methodCall_KW (pl := pl) (thn (he.run pins s σ H _ I h) ?_) ht
  rintro u s1 ⟨x, H1, I1, rx, a, dx, fs, rfl, ea, l, q⟩
  obtain rfl : u = Value.ref a := rx
  exact getmeth_ok I1 ea hc hm l (PySem.W.callWith_K0 (first := [.ref a]) I1.kIn hm.kp (F.ran (us := [.ref a]) (vs := [.ref a]) g (hr.mono hk) b hx I1 (.cons rfl .nil) q))
end
/-! ### a def by its body -/
theorem fnG {CX : CXT} {P : Program} {w : World} {K : PySem.W.Frag} {mg : Str → Option Value} {base : Heap} {k : Nat} {x qual : Str} {st : Stmt} {f : Addr} {fd : FuncData} {N ps : List Str} {sp : Sp} (D : L2.Fun K x qual st f fd) (S : FnScope N ps (defScope st))
    (many : ∀ vs H Q E, sp vs H Q E → vs.length = ps.length)
    (body : ∀ (cdv : Value) (A : Around) (outer : List Env) (s : Shared) (H : Hp) (vs : List V) (Q : VK) (E : XK), A.guards = some [] → Room k (A.deeper (envOfC qual (defScope st) s.heap.objs.size f cdv)) → sp vs H Q E →
      ∃ t, PSs (cxOf CX P w K mg base N qual (defScope st) f cdv A outer s H E) (defBody st) t ∧ t { nx := fun _ H' => Q .non H', rt := Q } (start N vs) H) : Fn P w K mg base CX (k + 1) f fd ps sp := by
  obtain ⟨oc, od, kV, doc, pm, an, cdv, ct, osl, rfl, lk, hcd⟩ := D.ex
  refine ⟨many, ?_⟩
  intro A outer s H args us vs Q E g hr e0 hb r hsp
  have up : ∀ b o, base.get? b = some o → s.heap.get? b = some o := fun b o e => (e0.bs b o e).1
  have kin : K.In s.heap := e0.mod.kin.keeps up
  refine codeAny_call_function hr.depth (kin _ _ lk) rfl S.co S.gen rfl (PySem.W.codeRec_of kin hcd) (hb _ _ _ _ ?_)
  refine wpAny_newFunctionEnv_cells S.kind ?_ ?_
  · rintro ⟨n, v⟩ hy
    have hp := (List.of_mem_zip hy).1
    refine (S.par n hp).imp id fun q => ⟨q, PySem.W.cellsFrom_some _ _ _ (.inl q)⟩
  · rintro env rfl s1 x1
    refine ⟨(e0.mod.nolimit.keeps up).keeps x1.toInCall.keep, codeAny_func ?_⟩
    obtain ⟨t, ht, hq⟩ := body cdv A outer s H vs Q E g (hr.deeper _) hsp
    refine wpAny_mono (ht.run [] s1 (start N vs) H _ (inv_start S hr.hd e0 (many _ _ _ _ hsp) r x1) hq) ?_ (fun e s' hs => hs)
    intro fl s' hs
    cases fl
    case ret u =>
      obtain ⟨v, σ', H', J, rv, q⟩ := hs
      exact ⟨v, H', J.os, J.bare, J.base, J.hok, rv, q⟩
    case next =>
      obtain ⟨σ', H', J, q⟩ := hs
      exact ⟨V.non, H', J.os, J.bare, J.base, J.hok, rfl, q⟩
    case brk => exact (let ⟨_, _, _, q⟩ := hs; False.elim q)
    case cont => exact (let ⟨_, _, _, q⟩ := hs; False.elim q)
theorem fn0G {P : Program} {w : World} {K : PySem.W.Frag} {mg : Str → Option Value} {base : Heap} {k : Nat} {x qual : Str} {st : Stmt} {f : Addr} {fd : FuncData} {N ps : List Str} {sp : Sp} (D : L2.Fun K x qual st f fd) (S : FnScope N ps (defScope st))
    (many : ∀ vs H Q E, sp vs H Q E → vs.length = ps.length)
    (body : ∀ (cdv : Value) (A : Around) (outer : List Env) (s : Shared) (H : Hp) (vs : List V) (Q : VK) (E : XK), A.guards = some [] → Room k (A.deeper (envOfC qual (defScope st) s.heap.objs.size f cdv)) → sp vs H Q E →
      ∃ t, PSs (cxOf CX0 P w K mg base N qual (defScope st) f cdv A outer s H E).nox (defBody st) t ∧ t { nx := fun _ H' => Q .non H', rt := Q } (start N vs) H) : Fn P w K mg base CX0 (k + 1) f fd ps sp :=
  fnG D S many fun cdv A outer s H vs Q E g hr h => let ⟨t, ht, q⟩ := body cdv A outer s H vs Q E g hr h; ⟨t, ht.nox, q⟩
/-- a def of the module as the top left it -/
structure Df (K : PySem.W.Frag) (mg : Str → Option Value) (x : Str) (st : Stmt) (ps : List Str) : Prop where
  ex : ∃ (f : Addr) (fd : FuncData), L2.Fun K x x st f fd ∧ mg x = some (.ref f) ∧ Binds K fd ps []
/-- a method as the top left it -/
structure Md (K : PySem.W.Frag) (C : Addr) (m qual : Str) (st : Stmt) (ps : List Str) : Prop where
  ex : ∃ (f : Addr) (fd : FuncData), L2.Fun K m qual st f fd ∧ Meth K C m f ∧ Binds K fd ps []
section
variable {P : Program} {w : World} {K : PySem.W.Frag} {mg : Str → Option Value} {base : Heap} {k : Nat} {x m qual : Str} {st : Stmt} {N ps : List Str} {sp : Sp} {C : Addr}
theorem Df.cal (D : Df K mg x st ps) (S : FnScope N ps (defScope st)) (many : ∀ vs H Q E, sp vs H Q E → vs.length = ps.length)
    (body : ∀ (f : Addr) (cdv : Value) (A : Around) (outer : List Env) (s : Shared) (H : Hp) (vs : List V) (Q : VK) (E : XK), A.guards = some [] → Room k (A.deeper (envOfC x (defScope st) s.heap.objs.size f cdv)) → sp vs H Q E →
      ∃ t, PSs (cxOf CX0 P w K mg base N x (defScope st) f cdv A outer s H E).nox (defBody st) t ∧ t { nx := fun _ H' => Q .non H', rt := Q } (start N vs) H) : Cal P w K mg base CX0 (k + 1) x sp := by
  obtain ⟨f, fd, F, hm, b⟩ := D.ex
  refine ⟨f, fd, ps, fnG F S many (fun cdv A outer s H vs Q E g hr h => ?_), hm, F.kp, b⟩
  obtain ⟨t, ht, q⟩ := body f cdv A outer s H vs Q E g hr h
  exact ⟨t, ht.nox, q⟩
theorem Md.met (D : Md K C m qual st ps) (c : Cls K C) (S : FnScope N ps (defScope st)) (many : ∀ vs H Q E, sp vs H Q E → vs.length = ps.length)
    (body : ∀ (f : Addr) (cdv : Value) (A : Around) (outer : List Env) (s : Shared) (H : Hp) (vs : List V) (Q : VK) (E : XK), A.guards = some [] → Room k (A.deeper (envOfC qual (defScope st) s.heap.objs.size f cdv)) → sp vs H Q E →
      ∃ t, PSs (cxOf CX0 P w K mg base N qual (defScope st) f cdv A outer s H E).nox (defBody st) t ∧ t { nx := fun _ H' => Q .non H', rt := Q } (start N vs) H) : Met P w K mg base CX0 (k + 1) C m sp := by
  obtain ⟨f, fd, F, hm, b⟩ := D.ex
  refine ⟨f, fd, ps, c, hm, fnG F S many (fun cdv A outer s H vs Q E g hr h => ?_), b⟩
  obtain ⟨t, ht, q⟩ := body f cdv A outer s H vs Q E g hr h
  exact ⟨t, ht.nox, q⟩
theorem Md.mak (D : Md K C "__init__" qual st ps) (hm : mg x = some (.ref C)) (M : ∀ f, Meth K C "__init__" f → Mk K C f) (S : FnScope N ps (defScope st)) (many : ∀ vs H Q E, sp vs H Q E → vs.length = ps.length)
    (body : ∀ (f : Addr) (cdv : Value) (A : Around) (outer : List Env) (s : Shared) (H : Hp) (vs : List V) (Q : VK) (E : XK), A.guards = some [] → Room k (A.deeper (envOfC qual (defScope st) s.heap.objs.size f cdv)) → sp vs H Q E →
      ∃ t, PSs (cxOf CX0 P w K mg base N qual (defScope st) f cdv A outer s H E).nox (defBody st) t ∧ t { nx := fun _ H' => Q .non H', rt := Q } (start N vs) H) : Mak P w K mg base CX0 (k + 1) x C sp := by
  obtain ⟨f, fd, F, me, b⟩ := D.ex
  refine ⟨f, fd, ps, M f me, fnG F S many (fun cdv A outer s H vs Q E g hr h => ?_), hm, b⟩
  obtain ⟨t, ht, q⟩ := body f cdv A outer s H vs Q E g hr h
  exact ⟨t, ht.nox, q⟩
end
end Lf
end
section
set_option Elab.async false
set_option linter.all false
set_option maxRecDepth 100000
set_option maxHeartbeats 4000000
namespace Lf
open PySem PySem.Spec PyProof.Rows L2
/-! ### the law's call -/
/-- the heap at the law's entry, as far as it is told: nothing, or the script alone -/
theorem lawG0 {P : Program} {w : World} {K : PySem.W.Frag} {mg mb : Str → Option Value} {k : Nat} {fa a : Addr} {fd : FuncData} {x : Str} {sp : Sp} {s : Shared} {vs : List Value}
    (KX : K.In s.heap) (hns : s.heap.Ns mainGlobals mg) (hb : s.heap.Ns builtinsNs mb) (hbb : ∀ x : Str, x ≠ "__name__" → mb x = bootBuiltins x) (lim : s.heap.NoLimit) (hg : s.gens = #[])
    (ha : s.heap.get? a = some { cls := .type "list", data := .seq vs.toArray }) (F : ∀ base : Heap, K.In base → base.Ns mainGlobals mg → Fn P w K mg base CX0 k fa fd [x] sp)
    (hbind : ∀ (s : Shared) (u : Value), BindsTo s fd ⟨[u], []⟩ [(x, u)]) (hr : Room k callerA) (H : Hp) (hO : Only H) (hok : HOk P w H s.heap) (hA : ∀ b, H b ≠ none → b = a ∧ K.lookup a = none)
    (hsp : sp [.ref a] H (fun v _ => v = .bl true) fun _ _ _ => False) :
    codeAny (model P w) callerA (.call (.ref fa) ⟨[.ref a], []⟩) (fun r s' => r = .ok (.ret (.bool true)) ∧ OldK s.heap s'.heap ∧ s'.os = s.os ∧ AllBare s'.gens) s := by
  have free : ∀ b, (b = a → False) → H b = none := by
    intro b hb
    cases q : H b with
    | none => rfl
    | some u => exact (hb (hA b (by rw [q]; simp)).1).elim
  have mapped : ∀ {b : Addr} {m : Str → Option Value}, s.heap.Ns b m → (hidT s.heap H).Ns b m := by
    rintro b m ⟨o, es, ep, e, d, r⟩
    refine ⟨o, es, ep, hidT_get e (free b ?_), d, r⟩
    rintro rfl
    rw [ha] at e
    cases e
    cases (show Data.seq vs.toArray _ = Data.dict es ep from d)
  have kin : K.In (hidT s.heap H) := by
    intro b o e
    refine hidT_get (KX b o e) ?_
    cases q : H b with
    | none => rfl
    | some u =>
      obtain ⟨e1, e2⟩ := hA b (by rw [q]; simp)
      rw [e1, e2] at e
      cases e
  obtain ⟨mc, l1, l2⟩ := lim
  have e0 : Env0 P w K mg (hidT s.heap H) callerA [] s H :=
    ⟨rfl, ⟨kin, mapped hns, ⟨mb, mapped hb, hbb⟩, ⟨mc, mapped l1, l2⟩⟩, fun b o e => of_hidT e, Nat.le_of_eq (hidT_size _ _), trivial, fun b hb => (List.not_mem_nil hb).elim, hok, .of_eq hg⟩
  have run := (F _ kin (mapped hns)).go callerA [] s H ⟨[.ref a], []⟩ [.ref a] [.ref a] _ _ rfl hr e0 (hbind s (.ref a)) (.cons rfl .nil) hsp
  refine codeAny_mono run ?_
  intro r s' h
  rcases r with e | fl
  · exact (show False from h).elim
  · cases fl
    case ret u =>
      obtain ⟨v, H', os, bare, un, hok', r', q⟩ := h
      obtain rfl : v = .bl true := q
      obtain rfl : u = Value.bool true := r'
      refine ⟨rfl, OldK.of_keep ?_, os, bare⟩
      intro b o e
      rcases hO b with q | ⟨ob, xs, q⟩
      · exact un.keep b o e q (fun z => (List.not_mem_nil z).elim) (fun z => (List.not_mem_nil z).elim)
      · have e1 := (hok b _ q).1
        have e2 := (hok' b _ (un.frzs b ob _ q)).1
        rw [e] at e1
        cases e1
        exact e2
    all_goals exact (show False from h).elim
theorem lawG {P : Program} {w : World} {K : PySem.W.Frag} {mg mb : Str → Option Value} {k : Nat} {fa a : Addr} {fd : FuncData} {x : Str} {sp : Sp} {s : Shared} {vs : List Value} {ns : List Int}
    (KX : K.In s.heap) (hns : s.heap.Ns mainGlobals mg) (hb : s.heap.Ns builtinsNs mb) (hbb : ∀ x : Str, x ≠ "__name__" → mb x = bootBuiltins x) (lim : s.heap.NoLimit) (hg : s.gens = #[])
    (ha : s.heap.get? a = some { cls := .type "list", data := .seq vs.toArray }) (hi : IntsAre vs ns) (hl : ns.length ≤ sizeLine) (F : ∀ base : Heap, K.In base → base.Ns mainGlobals mg → Fn P w K mg base CX0 k fa fd [x] sp)
    (hbind : ∀ (s : Shared) (u : Value), BindsTo s fd ⟨[u], []⟩ [(x, u)]) (hr : Room k callerA) (hsp : ∀ H : Hp, Only H → SqL K H a (ns.map V.int) → sp [.ref a] H (fun v _ => v = .bl true) fun _ _ _ => False) :
    codeAny (model P w) callerA (.call (.ref fa) ⟨[.ref a], []⟩) (fun r s' => r = .ok (.ret (.bool true)) ∧ OldK s.heap s'.heap ∧ s'.os = s.os ∧ AllBare s'.gens) s := by
  have rv : Vals (ns.map V.int) vs := vals_ints hi
  have many := hi.length
  cases hk : K.lookup a with
  | some o =>
    have e := KX a o hk
    rw [ha] at e
    cases e
    have hS : SqL K (fun _ => none) a (ns.map V.int) := .inr ⟨_, vs.toArray, _, hk, rfl, rfl, rfl, by rw [List.size_toArray, many]; exact hl, by simpa using rv⟩
    exact lawG0 KX hns hb hbb lim hg ha F hbind hr (fun _ => none) (fun _ => .inl rfl) (fun b u z => nomatch (show (none : Option HO) = some u from z)) (fun b z => (z rfl).elim) (hsp _ (fun _ => .inl rfl) hS)
  | none =>
    let H : Hp := upd (fun _ => none) a (.frz { cls := .type "list", data := .seq vs.toArray } (.lst (ns.map V.int)))
    have hH : H a = some (.frz { cls := .type "list", data := .seq vs.toArray } (.lst (ns.map V.int))) := upd_same
    have hN : ∀ b, b ≠ a → H b = none := fun b hb => upd_ne hb
    have hO : Only H := by
      intro b
      by_cases e : b = a
      · subst e
        exact .inr ⟨_, _, hH⟩
      · exact .inl (hN b e)
    refine lawG0 KX hns hb hbb lim hg ha F hbind hr H hO ?_ ?_ (hsp H hO (.inl (.inr ⟨_, hH⟩)))
    · intro b u z
      by_cases e : b = a
      · subst e
        rw [hH] at z
        cases z
        exact ⟨ha, by rw [List.length_map]; exact hl, vs, _, rv, ha⟩
      · rw [hN b e] at z
        cases z
    · intro b z
      refine ⟨?_, hk⟩
      by_cases e : b = a
      · exact e
      · exact (z (hN b e)).elim
/-- the goal that the head leaves, from the law's promise -/
theorem walkG {l : PySem.W.OpenLaw} {k : Nat} {q : Program} {loose : List Str} {XP : (Str → Option Value) → Heap → Prop} {YP : World → Heap → Prop} {d : DefRec} {K : Params → PySem.W.Frag} {sp : World → Sp} {x : Str}
    (hn : l.most = some 63) (hdf : d.params.defaults = []) (hr : Room k callerA) (hY : ∀ (w : World) (h : Heap), YP w h → (K w.params).In h)
    (F : ∀ (w : World) (mg : Str → Option Value) (fa : Addr) (h : Heap), (K w.params).In h → h.Ns mainGlobals mg → mg d.name = some (.ref fa) →
      ∃ fd : FuncData, (∀ (s : Shared) (u : Value), BindsTo s fd ⟨[u], []⟩ [(x, u)]) ∧ ∀ base : Heap, (K w.params).In base → base.Ns mainGlobals mg → Fn l.prog w (K w.params) mg base CX0 k fa fd [x] (sp w))
    (hsp : ∀ (w : World) (H : Hp) (a : Addr) (ns : List Int), ns.length ≤ 63 → Only H → SqL (K w.params) H a (ns.map V.int) → sp w [.ref a] H (fun v _ => v = .bl true) fun _ _ _ => False) :
    PySem.W.WalkO q loose XP YP l.row.toRowW d [] (fun f vs => PySem.call f vs) := by
  refine Att.attach_call hn hdf ?_
  intro w s₀ s₁ mg mb fa o pm cd doc a vs ns G Y ho hd hcd hmg hobj hints hlen hg
  have KX := hY w _ Y
  obtain ⟨fd, hb, hF⟩ := F w mg fa _ KX G.T.g hmg
  exact lawG KX G.T.g G.T.b G.T.builtins G.T.nolimit hg hobj hints (Nat.le_trans hlen (by decide)) hF hb hr (fun H hO hS => hsp w H a ns hlen hO hS)
/-! ### repr of data at any depth -/
section
variable {X : Cx}
def rRepr (K : PySem.W.Frag) : List V → Hp → VK → Prop := fun xs H Q => ∃ v d, xs = [v] ∧ Dp K H v d ∧ d.showable = true ∧ d.hasDict = false ∧ d.depth ≤ 60 ∧ d.shown.length ≤ sizeLine ∧ Q (.str d.shown) H
theorem cr_repr (g : X.A.guards = some []) (hu : X.A.units + 64 < cLine) : CallR X (.builtin "repr") (rRepr X.K) := by
  intro pins s σ H xs us Q I r h
  obtain ⟨v, d, rfl, hd, hs, hnd, hdep, hz, q⟩ := h
  obtain ⟨u, rfl, rv⟩ := vals1 r
  cases hd with
  | non => cases rv; exact PySem.P.repr_of_none ⟨.str _, H, I.tok _, ⟨_, rfl⟩, q⟩
  | bl b =>
    cases rv
    refine PySem.P.repr_of_bool ⟨.str _, H, I.tok _, ⟨_, rfl⟩, ?_⟩
    cases b <;> exact q
  | int i =>
    obtain ⟨t, rfl⟩ := rv
    exact PySem.P.repr_of_int (of_decide_eq_true hs) ⟨.str _, H, I.tok _, ⟨_, rfl⟩, q⟩
  | str x =>
    obtain ⟨t, rfl⟩ := rv
    exact PySem.P.repr_of_str ⟨.str _, H, I.tok _, ⟨_, rfl⟩, q⟩ hz
  | lst h1 h2 =>
    obtain ⟨as, rd⟩ := Dp.reads I _ _ _ (Dp.lst h1 h2) rv
    cases rv
    exact repr_of_reads' rd hs (fun z => by rw [hnd] at z; cases z) g (by omega) (fun b o e => e) (fun h' u tk hk => ⟨.str _, H, I.kept hk, ⟨_, rfl⟩, q⟩) hz
  | tup h1 h2 =>
    obtain ⟨as, rd⟩ := Dp.reads I _ _ _ (Dp.tup h1 h2) rv
    cases rv
    exact repr_of_reads' rd hs (fun z => by rw [hnd] at z; cases z) g (by omega) (fun b o e => e) (fun h' u tk hk => ⟨.str _, H, I.kept hk, ⟨_, rfl⟩, q⟩) hz
end
end Lf
end
section
set_option Elab.async false
set_option linter.all false
set_option maxRecDepth 100000
set_option maxHeartbeats 4000000
namespace Lf
open PySem PySem.Spec PyProof.Rows L2
open Evl
theorem u65 {k : Nat} {A : Around} (hr : Room k A) : A.units + 65 < cLine := by have := hr.un; omega
/-! ### data, kept -/
mutual
theorem dp_ex {K : PySem.W.Frag} {H H' : Hp} (e : Ex H H') : ∀ (d : PyData) (v : V), Dp K H v d → Dp K H' v d
  | .none, _, h => by cases h; exact .non
  | .bool b, _, h => by cases h; exact .bl b
  | .int i, _, h => by cases h; exact .int i
  | .str x, _, h => by cases h; exact .str x
  | .list ds, _, h => by
    cases h with
    | lst h1 h2 => exact .lst (ex_l e h1) (dps_ex e ds _ h2)
  | .tuple ds, _, h => by
    cases h with
    | tup h1 h2 => exact .tup (ex_t e h1) (dps_ex e ds _ h2)
  | .dict _, _, h => by cases h
theorem dps_ex {K : PySem.W.Frag} {H H' : Hp} (e : Ex H H') : ∀ (ds : List PyData) (vs : List V), DpAll K H vs ds → DpAll K H' vs ds
  | [], _, h => by cases h; exact .nil
  | d :: ds, _, h => by
    cases h with
    | cons h1 h2 => exact .cons (dp_ex e d _ h1) (dps_ex e ds _ h2)
end
theorem Dp.ex {K : PySem.W.Frag} {H H' : Hp} {v : V} {d : PyData} (h : Dp K H v d) (e : Ex H H') : Dp K H' v d := dp_ex e d v h
theorem Dps.ex {K : PySem.W.Frag} {H H' : Hp} {vs : List V} {ds : List PyData} (h : DpAll K H vs ds) (e : Ex H H') : DpAll K H' vs ds := dps_ex e ds vs h
theorem dp_list {K : PySem.W.Frag} {H : Hp} {v : V} {ds : List PyData} (h : Dp K H v (.list ds)) : ∃ a xs, v = .ref a ∧ SqL K H a xs ∧ DpAll K H xs ds := by
  cases h with
  | lst h1 h2 => exact ⟨_, _, rfl, h1, h2⟩
theorem dp_tup {K : PySem.W.Frag} {H : Hp} {v : V} {ds : List PyData} (h : Dp K H v (.tuple ds)) : ∃ a xs, v = .ref a ∧ SqT K H a xs ∧ DpAll K H xs ds := by
  cases h with
  | tup h1 h2 => exact ⟨_, _, rfl, h1, h2⟩
theorem dp_int {K : PySem.W.Frag} {H : Hp} {v : V} {i : Int} (h : Dp K H v (.int i)) : v = .int i := by cases h; rfl
theorem Dps.len {K : PySem.W.Frag} {H : Hp} : ∀ {vs : List V} {ds : List PyData}, DpAll K H vs ds → vs.length = ds.length
  | _, _, .nil => rfl
  | _, _, .cons _ t => congrArg (· + 1) (Dps.len t)
theorem Dps.get {K : PySem.W.Frag} {H : Hp} : ∀ {vs : List V} {ds : List PyData} {i : Nat} {v : V}, DpAll K H vs ds → vs[i]? = some v → ∃ d, ds[i]? = some d ∧ Dp K H v d
  | _, _, 0, _, .cons h _, e => by simp at e; subst e; exact ⟨_, rfl, h⟩
  | _, _, i + 1, _, .cons _ t, e => by
    obtain ⟨d, h1, h2⟩ := Dps.get (i := i) t (by simpa using e)
    exact ⟨d, by simpa using h1, h2⟩
theorem Dps.get2 {K : PySem.W.Frag} {H : Hp} : ∀ {vs : List V} {ds : List PyData} {i : Nat} {d : PyData}, DpAll K H vs ds → ds[i]? = some d → ∃ v, vs[i]? = some v ∧ Dp K H v d
  | _, _, 0, _, .cons h _, e => by simp at e; subst e; exact ⟨_, rfl, h⟩
  | _, _, i + 1, _, .cons _ t, e => by
    obtain ⟨d, h1, h2⟩ := Dps.get2 (i := i) t (by simpa using e)
    exact ⟨d, by simpa using h1, h2⟩
theorem Dps.app {K : PySem.W.Frag} {H : Hp} : ∀ {vs ws : List V} {ds es : List PyData}, DpAll K H vs ds → DpAll K H ws es → DpAll K H (vs ++ ws) (ds ++ es)
  | _, _, _, _, .nil, h => h
  | _, _, _, _, .cons h t, h2 => .cons h (Dps.app t h2)
theorem Dps.ints {K : PySem.W.Frag} {H : Hp} : ∀ {ns : List Int}, DpAll K H (ns.map V.int) (ns.map PyData.int)
  | [] => .nil
  | n :: _ => .cons (.int n) Dps.ints
theorem Dps.ints_inv {K : PySem.W.Frag} {H : Hp} : ∀ {ns : List Int} {vs : List V}, DpAll K H vs (ns.map PyData.int) → vs = ns.map V.int
  | [], _, h => by cases h; rfl
  | n :: ns, _, h => by
    cases h with
    | cons h1 h2 =>
      have e1 := dp_int h1
      have e2 := Dps.ints_inv h2
      rw [e1, e2, List.map_cons]
theorem Dps.take {K : PySem.W.Frag} {H : Hp} : ∀ {vs : List V} {ds : List PyData} (n : Nat), DpAll K H vs ds → DpAll K H (vs.take n) (ds.take n)
  | _, _, 0, _ => .nil
  | _, _, _ + 1, .nil => .nil
  | _, _, n + 1, .cons h t => .cons h (Dps.take n t)
theorem Dps.drop {K : PySem.W.Frag} {H : Hp} : ∀ {vs : List V} {ds : List PyData} (n : Nat), DpAll K H vs ds → DpAll K H (vs.drop n) (ds.drop n)
  | _, _, 0, h => h
  | _, _, _ + 1, .nil => .nil
  | _, _, n + 1, .cons _ t => Dps.drop n t
theorem ty_of_l {K : PySem.W.Frag} {H : Hp} {a : Addr} {xs : List V} (h : SqL K H a xs) : TyX K H (.ref a) (.type "list") := by
  rcases h with (h | ⟨o, h⟩) | ⟨o, its, n, h1, h2, _⟩
  · exact .base (.lst h)
  · exact .base (.frz h)
  · exact .kList h1 h2
theorem ty_of_t {K : PySem.W.Frag} {H : Hp} {a : Addr} {xs : List V} (h : SqT K H a xs) : TyX K H (.ref a) (.type "tuple") := by
  rcases h with (h | ⟨o, h⟩) | ⟨o, its, n, h1, h2, _⟩
  · exact .base (.tup h)
  · exact .fTuple h
  · exact .kTuple h1 h2
/-! ### what evaluates to what, for our own calls -/
section
variable {K : PySem.W.Frag} {σ : L2.St} {H H' : Hp} {ta tb te tx : TE} {t u : TT} {x y z v : V} {r : R2}
def SV (sp : Sp) (vs : List V) (H : Hp) (z : V) : Prop := ∀ H1, Ex H H1 → ∀ Q : VK, RetV z H1 Q → ∀ E : XK, sp vs H1 Q E
def SL (sp : Sp) (vs : List V) (H : Hp) (xs : List V) : Prop := ∀ H1, Ex H H1 → ∀ Q : VK, RetL xs H1 Q → ∀ E : XK, sp vs H1 Q E
theorem ev_cl {sp : Sp} {vs : List V} {E : XK} {ta : TA} (h : EvA ta σ H vs) (hs : SV sp vs H z) : Ev (tCl sp E ta) σ H z := fun H1 e Q q =>
  h H1 e _ fun H2 e2 => hs H2 (e.trans e2) Q (fun H3 e3 => q H3 (e2.trans e3)) E
theorem el_cl {sp : Sp} {vs xs : List V} {E : XK} {ta : TA} (h : EvA ta σ H vs) (hs : SL sp vs H xs) : EvL (tCl sp E ta) σ H xs := fun H1 e Q q =>
  h H1 e _ fun H2 e2 => hs H2 (e.trans e2) Q (fun p H3 hp e3 h3 => q p H3 (fresh_back e2 hp) (e2.trans e3) h3) E
theorem ev_mt {C a dx : Addr} {m : Str} {fs : List (Str × V)} {sp : Sp} {vs : List V} {E : XK} {tr : TA} (ho : Ev ta σ H (.ref a)) (hi : H a = some (.ins C dx fs)) (hm : fs.lookup m = none) (h : EvA tr σ H vs) (hs : SV sp (.ref a :: vs) H z) : Ev (tMt C m sp E ta tr) σ H z := fun H1 e Q q =>
  ho H1 e _ fun H2 e2 => ⟨a, dx, fs, rfl, e2 _ _ (e _ _ hi), hm, h H2 (e.trans e2) _ fun H3 e3 => hs H3 ((e.trans e2).trans e3) Q (fun H4 e4 => q H4 ((e2.trans e3).trans e4)) E⟩
theorem el_mt {C a dx : Addr} {m : Str} {fs : List (Str × V)} {sp : Sp} {vs xs : List V} {E : XK} {tr : TA} (ho : Ev ta σ H (.ref a)) (hi : H a = some (.ins C dx fs)) (hm : fs.lookup m = none) (h : EvA tr σ H vs) (hs : SL sp (.ref a :: vs) H xs) : EvL (tMt C m sp E ta tr) σ H xs := fun H1 e Q q =>
  ho H1 e _ fun H2 e2 => ⟨a, dx, fs, rfl, e2 _ _ (e _ _ hi), hm, h H2 (e.trans e2) _ fun H3 e3 => hs H3 ((e.trans e2).trans e3) Q (fun p H4 hp e4 h4 => q p H4 (fresh_back e2 (fresh_back e3 hp)) ((e2.trans e3).trans e4) h4) E⟩
theorem ev_fld {C a dx : Addr} {f : Str} {fs : List (Str × V)} (ho : Ev ta σ H (.ref a)) (hi : H a = some (.ins C dx fs)) (cl : Cls K C) (na : NoAttr K C f) (hl : fs.lookup f = some v) : Ev (tFld K ta f) σ H v := fun H1 e Q q =>
  ho H1 e _ fun H2 e2 => ⟨a, C, dx, fs, v, rfl, e2 _ _ (e _ _ hi), cl, na, hl, q H2 e2⟩
theorem ev_any {bs : List Bool} (h : EvL te σ H (bs.map V.bl)) : Ev (tCB (rAny K) (tCons te tNil)) σ H (.bl (bs.any id)) := fun H1 e Q q =>
  h H1 e _ fun p H2 _ e2 hp => ⟨p, bs, rfl, sq_of hp, q H2 e2⟩
theorem ev_all {bs : List Bool} (h : EvL te σ H (bs.map V.bl)) : Ev (tCB (rAll K) (tCons te tNil)) σ H (.bl (bs.all id)) := fun H1 e Q q =>
  h H1 e _ fun p H2 _ e2 hp => ⟨p, bs, rfl, sq_of hp, q H2 e2⟩
theorem ev_chain {r r' : R2} {tc : TE} {a b : Bool} (ha : Ev ta σ H x) (hb : Ev tb σ H y) (h1 : RV r x y H (.bl a)) (hc : a = true → Ev tc σ H z) (h2 : a = true → RV r' y z H (.bl b)) : Ev (tChain r r' ta tb tc) σ H (.bl (a && b)) := fun H1 e Q q =>
  ha H1 e _ fun H2 e2 => hb H2 (e.trans e2) _ fun H3 e3 => h1 H3 ((e.trans e2).trans e3) _ fun H4 e4 => ⟨a, rfl, by
    cases a with
    | true =>
      refine iteT ?_
      refine hc rfl H4 (((e.trans e2).trans e3).trans e4) _ fun H5 e5 => ?_
      exact h2 rfl H5 ((((e.trans e2).trans e3).trans e4).trans e5) Q fun H6 e6 => q H6 ((((e2.trans e3).trans e4).trans e5).trans e6)
    | false => exact iteF (q H4 ((e2.trans e3).trans e4))⟩
theorem ev_lenL {p : Addr} {xs : List V} (ha : Ev ta σ H (.ref p)) (h : SqL K H p xs) : Ev (tCB (fun xs H Q => ∃ p ys, xs = [V.ref p] ∧ (SqL K H p ys ∨ SqT K H p ys) ∧ Q (.int ys.length) H) (tCons ta tNil)) σ H (.int (xs.length : Int)) := fun H1 e Q q =>
  ha H1 e _ fun H2 e2 => ⟨p, xs, rfl, Or.inl (ex_l (e.trans e2) h), q H2 e2⟩
theorem ev_lenT {p : Addr} {xs : List V} (ha : Ev ta σ H (.ref p)) (h : SqT K H p xs) : Ev (tCB (fun xs H Q => ∃ p ys, xs = [V.ref p] ∧ (SqL K H p ys ∨ SqT K H p ys) ∧ Q (.int ys.length) H) (tCons ta tNil)) σ H (.int (xs.length : Int)) := fun H1 e Q q =>
  ha H1 e _ fun H2 e2 => ⟨p, xs, rfl, Or.inr (ex_t (e.trans e2) h), q H2 e2⟩
theorem ev_lenF {xs : List V} (ha : EvL ta σ H xs) : Ev (tCB (fun xs H Q => ∃ p ys, xs = [V.ref p] ∧ (SqL K H p ys ∨ SqT K H p ys) ∧ Q (.int ys.length) H) (tCons ta tNil)) σ H (.int (xs.length : Int)) := fun H1 e Q q =>
  ha H1 e _ fun p H2 _ e2 hp => ⟨p, xs, rfl, Or.inl (sq_of hp), q H2 e2⟩
theorem el_listL {p : Addr} {xs : List V} (ha : Ev ta σ H (.ref p)) (h : SqL K H p xs) : EvL (tCB (fun xs H Q => ∃ p ys, xs = [V.ref p] ∧ (SqL K H p ys ∨ SqT K H p ys) ∧ ∀ l, H l = none → Q (.ref l) (upd H l (.lst ys))) (tCons ta tNil)) σ H xs := fun H1 e Q q =>
  ha H1 e _ fun H2 e2 => ⟨p, xs, rfl, Or.inl (ex_l (e.trans e2) h), fun l hl => q l _ (fresh_back e2 hl) (e2.trans (Ex.new hl)) upd_same⟩
theorem given_all (n : Nat) (v : Nat → V) : given n (fun _ => true) v = (List.range n).map v := by
  unfold given
  rw [List.filter_eq_self.mpr (fun _ _ => rfl)]
theorem yes_ok {σ : L2.St} {H : Hp} : EvT tYes σ H true := fun H1 _ _ q => q H1 (Ex.refl H1)
/-- [e for x in xs], all, by places -/
theorem el_map {a : Addr} {xs : List V} {tl : TE} {j : Nat} {vs : List Nat} (v : Nat → V) (h : Ev tl σ H (.ref a)) (hx : SqL K H a xs) (hz : xs.length ≤ 40000) (hw : ∀ x, wipe ((wipe σ vs).set j (some x)) vs = wipe σ vs)
    (he : ∀ (i : Nat) (x : V) H1, Ex H H1 → xs[i]? = some x → Ev te ((wipe σ vs).set j (some x)) H1 (v i)) : EvL (tLc (iList K tl) (gName j) tYes te vs) σ H ((List.range xs.length).map v) := by
  rw [← given_all]
  exact el_lcL (fun _ => true) v h hx hz hw (fun _ _ _ _ _ => yes_ok) (fun i x H1 e hi _ => he i x H1 e hi)
theorem el_mapT {a : Addr} {xs : List V} {tl : TE} {j : Nat} {vs : List Nat} (v : Nat → V) (h : Ev tl σ H (.ref a)) (hx : SqT K H a xs) (hz : xs.length ≤ 40000) (hw : ∀ x, wipe ((wipe σ vs).set j (some x)) vs = wipe σ vs)
    (he : ∀ (i : Nat) (x : V) H1, Ex H H1 → xs[i]? = some x → Ev te ((wipe σ vs).set j (some x)) H1 (v i)) : EvL (tLc (iTup K tl) (gName j) tYes te vs) σ H ((List.range xs.length).map v) := by
  rw [← given_all]
  exact fun H0 e Q q => h H0 e _ fun H1 e1 => ⟨a, rfl, ⟨xs, ex_t (e.trans e1) hx⟩, fun Dl hD =>
    lc_tup (xs := xs) (Cw H1 (fun _ => true) v Dl) ⟨hD, Ex.new hD, upd_same⟩ (fun i H' _ p => ex_t ((e.trans e1).trans p.2.1) hx) (fun i x H' hi p => ⟨hw x, cw_turn p (by have := (List.getElem?_eq_some_iff.mp hi).1; omega) yes_ok (fun _ => he i x H1 (e.trans e1) hi)⟩)
      (fun H' p => q Dl H' (fresh_back e1 p.1) (e1.trans p.2.1) p.2.2)⟩
/-- [e for x, y in zip(a, b)], all -/
theorem el_mapZ {ta : TA} {a : Addr} {xs ys : List V} {j1 j2 n : Nat} {vs : List Nat} (v : Nat → V) (hA : ∀ H1, Ex H H1 → ∀ Q : List V → Hp → Prop, (∀ b H2, Ex H1 H2 → SqL K H2 b ys → Q [.ref a, .ref b] H2) → ta σ H1 Q) (hx : SqL K H a xs)
    (hn : n ≤ xs.length ∧ n ≤ ys.length ∧ (xs.length ≤ n ∨ ys.length ≤ n)) (hz : n ≤ 40000) (hw : ∀ x y, wipe (((wipe σ vs).set j1 (some x)).set j2 (some y)) vs = wipe σ vs)
    (he : ∀ (i : Nat) (x y : V) H1, Ex H H1 → xs[i]? = some x → ys[i]? = some y → Ev te (((wipe σ vs).set j1 (some x)).set j2 (some y)) H1 (v i)) : EvL (tLc (iZip K ta) (gTup K 2 (gCons (gName j1) (gCons (gName j2) gNil))) tYes te vs) σ H ((List.range n).map v) := by
  rw [← given_all]
  intro H0 e Q q
  refine hA H0 e _ fun b H1 e1 hy => ⟨a, b, xs, ys, rfl, ex_l (e.trans e1) hx, hy, fun D hD => ?_⟩
  refine ⟨fun i m H' => m = n - i ∧ i ≤ n ∧ Cw H1 (fun _ => true) v D i H', ⟨n, by simp, Nat.zero_le _, hD, Ex.new hD, upd_same⟩, ?_⟩
  rintro i m H' ⟨rfl, hi, p⟩
  have hxs : SqL K H' a xs := ex_l ((e.trans e1).trans p.2.1) hx
  have hys : SqL K H' b ys := ex_l p.2.1 hy
  by_cases hlt : i < n
  · have gx : xs[i]? = some xs[i] := List.getElem?_eq_getElem (by omega)
    have gy : ys[i]? = some ys[i] := List.getElem?_eq_getElem (by omega)
    refine .inr ⟨⟨xs, ys, _, _, hxs, hys, gx, gy⟩, Cw H1 (fun _ => true) v D (i + 1), fun H2 p2 => ⟨n - (i + 1), by omega, rfl, hlt, p2⟩, ?_⟩
    rintro z H2 ⟨T, x, y, rfl, hT, rfl, fx, fy⟩
    have ex := Option.some.inj ((fx _ hxs).symm.trans gx)
    have ey := Option.some.inj ((fy _ hys).symm.trans gy)
    subst ex ey
    have pT : Cw H1 (fun _ => true) v D i (upd H' T (.tup [xs[i], ys[i]])) := ⟨p.1, p.2.1.trans (Ex.new hT), (Ex.new hT) _ _ p.2.2⟩
    refine ⟨T, _, rfl, .inl (.inl upd_same), rfl, _, _, rfl, _, _, rfl, rfl, hw _ _, ?_⟩
    exact cw_turn pT (by omega) yes_ok (fun _ => he i _ _ H1 (e.trans e1) gx gy)
  · have hin : i = n := by omega
    subst hin
    refine .inl ⟨⟨xs, ys, hxs, hys, by omega⟩, ?_⟩
    exact q D H' (fresh_back e1 p.1) (e1.trans p.2.1) p.2.2
end
end Lf
end
section
set_option Elab.async false
set_option linter.all false
set_option maxRecDepth 100000
set_option maxHeartbeats 4000000
/-! the rules with the fragment named (a block's rule must not speak of the block) -/
namespace Lf
open PySem PySem.Spec PyProof.Rows L2
section
variable {X : Cx} {K : PySem.W.Frag}
theorem kop {r : PySem.W.Frag → R2} {f : Value → Value → Sem Value} (h : OpR X f (r X.K)) (e : X.K = K) : OpR X f (r K) := by
  subst e
  exact h
theorem kix {r : PySem.W.Frag → R2} (h : IxR X (r X.K)) (e : X.K = K) : IxR X (r K) := by
  subst e
  exact h
theorem kcr {r : PySem.W.Frag → List V → Hp → VK → Prop} {f : Value} (h : CallR X f (r X.K)) (e : X.K = K) : CallR X f (r K) := by
  subst e
  exact h
theorem ksl {r : PySem.W.Frag → V → Option Int → Option Int → Hp → VK → Prop} (h : SlR X (r X.K)) (e : X.K = K) : SlR X (r K) := by
  subst e
  exact h
theorem kget {r : PySem.W.Frag → V → V → Hp → VK → Prop} (h : PGet X (r X.K)) (e : X.K = K) : PGet X (r K) := by
  subst e
  exact h
def rLen (K : PySem.W.Frag) : List V → Hp → VK → Prop := fun xs H Q => ∃ p ys, xs = [V.ref p] ∧ (SqL K H p ys ∨ SqT K H p ys) ∧ Q (.int ys.length) H
def rLst (K : PySem.W.Frag) : List V → Hp → VK → Prop := fun xs H Q => ∃ p ys, xs = [V.ref p] ∧ (SqL K H p ys ∨ SqT K H p ys) ∧ ∀ l, H l = none → Q (.ref l) (upd H l (.lst ys))
def rTpl (K : PySem.W.Frag) : List V → Hp → VK → Prop := fun xs H Q => ∃ p ys, xs = [V.ref p] ∧ ((SqL K H p ys ∧ ∀ l, H l = none → Q (.ref l) (upd H l (.tup ys))) ∨ (SqT K H p ys ∧ Q (.ref p) H))
theorem k_len (e : X.K = K) : CallR X (.builtin "len") (rLen K) := by
  subst e
  exact call_len_seq
theorem k_lst (e : X.K = K) : CallR X (.type "list") (rLst K) := by
  subst e
  exact call_list_of
theorem k_tpl (e : X.K = K) : CallR X (.type "tuple") (rTpl K) := by
  subst e
  exact call_tuple_of
variable {e o : Expr} {es : List Expr} {pos apos cpos : Pos} {f name : Str} {ta to te : TE} {t : TA} {T id : String} {tg : Expr}
theorem k_fld (k : X.K = K) (he : PE X e ta) (hb : attributeBase e f X.env (eval e X.env) = eval e X.env) : PE X (.Attribute e f pos) (tFld K ta f) := by
  subst k
  exact pe_fld he hb
theorem k_bm0 {r : V → List V → Hp → VK → Prop} (k : X.K = K) (pa : PlainAttrs T) (slot : Slot T name id) (hty : typeOf (.builtin id) = pure (.type "method_descriptor")) (hm : MtR X id r) (ho : PE X o to)
    (hbase : attributeBase o name X.env (eval o X.env) = eval o X.env := by rfl) (hline : (apos.endLine == cpos.line) = true := by rfl) : PE X (.Call (.Attribute o name apos) [] [] cpos) (tBM0 K T r to) := by
  subst k
  exact pe_bm0 pa slot hty hm ho hbase hline
theorem k_bm {r : V → List V → Hp → VK → Prop} (k : X.K = K) (pa : PlainAttrs T) (slot : Slot T name id) (hty : typeOf (.builtin id) = pure (.type "method_descriptor")) (hm : MtR X id r) (ho : PE X o to) (ha : PA X (e :: es) t)
    (hbase : attributeBase o name X.env (eval o X.env) = eval o X.env := by rfl)
    (hfew : ((backTo cpos (starEach (e :: es) X.env)).all (fun x => !x.1) && (backToKw cpos (keywordEach [] X.env)).all (fun x => x.1.isSome)
      && decide ((e :: es).length + ([] : List Keyword).length + (if ([] : List Keyword).isEmpty then 0 else 1) < 30)) = true := by rfl)
    (hline : (apos.endLine == cpos.line) = true := by rfl) (hs : starEach (e :: es) X.env = (false, eval e X.env) :: starEach es X.env := by rfl) (hplain : (backTo cpos (starEach es X.env)).any (·.1) = false := by rfl) :
    PE X (.Call (.Attribute o name apos) (e :: es) [] cpos) (tBM K T r to t) := by
  subst k
  exact pe_bm pa slot hty hm ho ha hbase hfew hline hs hplain
theorem k_list {l : Expr} {tl : TE} (k : X.K = K) (hl : PE X l tl) : PI X tg l (iList K tl) := by
  subst k
  exact pi_list hl
theorem k_tup {l : Expr} {tl : TE} (k : X.K = K) (hl : PE X l tl) : PI X tg l (iTup K tl) := by
  subst k
  exact pi_tup hl
theorem k_gtup {es : List Expr} {kk : Nat} {t : TGs} {n : Nat} (k : X.K = K) (hc : X.calm = true) (h : PGs X es t)
    (hn : (assignEach es X.env).length = n := by rfl) (hst : (assignEach es X.env).findIdx? (·.1) = none := by rfl) : PG X (.Tuple es kk pos) (gTup K n t) := by
  subst k
  exact pg_tup hc h hn hst
theorem k_revL {p1 p2 p3 : Pos} {kk : Nat} (k : X.K = K) (he : PE X e te) : PE X (.Subscript e (.Slice none none (some (.UnaryOp .USub (.Constant (.int 1) kk p1) p2)) p3) pos) (tRevL K te) := by
  subst k
  exact pe_revL he
def tTr (K : PySem.W.Frag) (ta : TE) : TT := fun σ H Q => ta σ H fun x H' => ∃ k, TruV K x H' k ∧ Q k H'
theorem k_truth (k : X.K = K) (h : PE X e ta) (he : ∀ whole, isTrue e X.env whole = (do let v ← whole; standAt e.pos; holding [v] (truthy v))) : PT X e (tTr K ta) := by
  subst k
  exact pt_truth h he
theorem k_enum {p tpos : Pos} {elts : List Expr} {kk : Nat} (k : X.K = K) (hg : Gl X "enumerate") (hm : X.mg "enumerate" = none) (ha : PA X [e] t) (hs : starEach [e] X.env = [(false, eval e X.env)] := by rfl) :
    PI X (.Tuple elts kk tpos) (.Call (.Name "enumerate" p) [e] [] pos) (iEnum K t) := by
  subst k
  exact pi_enum hg hm ha hs
theorem k_zip {p tpos : Pos} {elts : List Expr} {kk : Nat} {e2 : Expr} (k : X.K = K) (hg : Gl X "zip") (hm : X.mg "zip" = none) (ha : PA X [e, e2] t) (hs : starEach [e, e2] X.env = (false, eval e X.env) :: starEach [e2] X.env := by rfl)
    (hpl : (backTo pos (starEach [e2] X.env)).any (·.1) = false := by rfl) : PI X (.Tuple elts kk tpos) (.Call (.Name "zip" p) [e, e2] [] pos) (iZip K t) := by
  subst k
  exact pi_zip hg hm ha hs hpl
end
section
variable {K : PySem.W.Frag} {σ : L2.St} {H H' : Hp} {te : TE} {D : Ends} {tz : TS} {g : TG} {xs : List V} {v : V}
open Evl
theorem q_asgG (h : EvL te σ H xs) (k : ∀ p H1, H p = none → Ex H H1 → H1 p = some (.lst xs) → g (.ref p) σ H1 (tz D)) : tSeq (tAsg te g) tz D σ H := h H (Ex.refl H) _ k
theorem q_forE {a : Addr} {ys : List V} {ta : TA} {tu : TS} {j1 j2 : Nat} (h : EvA ta σ H [.ref a]) (hx : SqL K H a ys) (Pv : Nat → L2.St → Hp → Prop) (h0 : ∀ H1, Ex H H1 → Pv 0 σ H1) (hl : ∀ i σ' H', Pv i σ' H' → SqL K H' a ys)
    (st : ∀ i σ' H' T o, Pv i σ' H' → H' T = none → Pv i σ' (upd H' T o))
    (hs : ∀ (i : Nat) x σ' H', ys[i]? = some x → Pv i σ' H' → tu { D with nx := Pv (i + 1), ct := Pv (i + 1), bk := tz D } ((σ'.set j1 (some (.int (i : Int)))).set j2 (some x)) H') (hd : ∀ σ' H', Pv ys.length σ' H' → tz D σ' H') :
    tSeq (tFor (iEnum K ta) (gTup K 2 (gCons (gName j1) (gCons (gName j2) gNil))) tu) tz D σ H := by
  refine h H (Ex.refl H) _ fun H1 e => ⟨a, ys, rfl, ex_l e hx, ?_⟩
  refine ⟨fun i m σ H => m = ys.length - i ∧ i ≤ ys.length ∧ Pv i σ H, ⟨ys.length, by simp, Nat.zero_le _, h0 H1 e⟩, ?_⟩
  rintro i m σ' H' ⟨rfl, hi, p⟩
  have hq := hl i σ' H' p
  by_cases hlt : i < ys.length
  · have gy : ys[i]? = some ys[i] := List.getElem?_eq_getElem hlt
    refine .inr ⟨⟨ys, _, hq, gy⟩, Pv (i + 1), fun σ2 H2 p2 => ⟨ys.length - (i + 1), by omega, rfl, hlt, p2⟩, ?_⟩
    rintro z H2 ⟨T, x, rfl, hT, rfl, fx⟩
    have ex := Option.some.inj ((fx _ hq).symm.trans gy)
    subst ex
    exact ⟨T, _, rfl, .inl (.inl upd_same), rfl, _, _, rfl, _, _, rfl, rfl, hs i _ σ' _ gy (st _ _ _ _ _ p hT)⟩
  · have e1 : i = ys.length := by omega
    subst e1
    exact .inl ⟨⟨ys, hq, Nat.le_refl _⟩, hd _ _ p⟩
theorem q_asgV (h : Ev te σ H v) (k : ∀ H1, Ex H H1 → g v σ H1 (tz D)) : tSeq (tAsg te g) tz D σ H := h H (Ex.refl H) _ k
end
end Lf
end
section
set_option Elab.async false
set_option linter.all false
set_option maxRecDepth 100000
set_option maxHeartbeats 4000000
/-! Lw: the bag of draws, and what a draw leaves. -/
namespace Lf
open PySem PySem.Spec PyProof.Rows L2
open Evl
/-- the bag at b: what is left of a cell, the stirred number, how many cells were taken, the cells -/
def Bag (H : Hp) (b : Addr × Addr) : Prop := ∃ (x y z : Int) (ns : List Int), H b.1 = some (.lst [.int x, .int y, .int z, .ref b.2]) ∧ H b.2 = some (.lst (ns.map V.int)) ∧ 0 ≤ x ∧ (0 ≤ y ∧ y < 2147483647) ∧ 0 ≤ z ∧ ∀ n ∈ ns, 0 ≤ n
def spTake : Sp := fun vs H Q _ => ∃ (b : Addr × Addr) (many : Int), vs = [.ref b.1, .int many] ∧ Bag H b ∧ (0 < many ∧ many < 1073741824) ∧ ∀ v H', 0 ≤ v → v < many → Bag H' b → (∀ a, a ≠ b.1 → H' a = H a) → Q (.int v) H'
/-- all but the bag -/
def mask (b : Addr) (H : Hp) : Hp := fun a => if a = b then none else H a
theorem mask_at {b a : Addr} {H : Hp} (h : a ≠ b) : mask b H a = H a := if_neg h
theorem mask_self {b : Addr} {H : Hp} : mask b H b = none := if_pos rfl
theorem mask_le (b : Addr) (H : Hp) : Ex (mask b H) H := fun a o h => by
  by_cases e : a = b
  · subst e
    rw [mask_self] at h
    cases h
  · rw [mask_at e] at h
    exact h
theorem mask_ex {b : Addr} {H H' : Hp} (e : Ex H H') : Ex (mask b H) (mask b H') := fun a o h => by
  by_cases q : a = b
  · subst q
    rw [mask_self] at h
    cases h
  · rw [mask_at q] at h
    rw [mask_at q]
    exact e _ _ h
theorem mask_same {b : Addr} {H H' : Hp} (e : ∀ a, a ≠ b → H' a = H a) : Ex (mask b H) (mask b H') := fun a o h => by
  by_cases q : a = b
  · subst q
    rw [mask_self] at h
    cases h
  · rw [mask_at q] at h
    rw [mask_at q, e a q]
    exact h
theorem Bag.ex {b : Addr × Addr} {H H' : Hp} (h : Bag H b) (e : Ex H H') : Bag H' b := by
  obtain ⟨x, y, z, ns, h1, h2, h3⟩ := h
  exact ⟨x, y, z, ns, e _ _ h1, e _ _ h2, h3⟩
theorem Bag.ne {b : Addr × Addr} {p : Addr} {H : Hp} (h : Bag H b) (hp : H p = none) : p ≠ b.1 := by
  obtain ⟨x, y, z, ns, h1, _⟩ := h
  rintro rfl
  rw [h1] at hp
  cases hp
theorem Bag.ne2 {b : Addr × Addr} {p : Addr} {H : Hp} (h : Bag H b) (hp : H p = none) : p ≠ b.2 := by
  obtain ⟨x, y, z, ns, _, h1, _⟩ := h
  rintro rfl
  rw [h1] at hp
  cases hp
/-- what a stretch with draws leaves: the bag is one still, all else is kept -/
def Step (b : Addr × Addr) (H H' : Hp) : Prop := Bag H' b ∧ Ex (mask b.1 H) (mask b.1 H')
theorem Step.refl {b : Addr × Addr} {H : Hp} (h : Bag H b) : Step b H H := ⟨h, Ex.refl _⟩
theorem Step.trans {b : Addr × Addr} {H H1 H2 : Hp} (h : Step b H H1) (h' : Step b H1 H2) : Step b H H2 := ⟨h'.1, h.2.trans h'.2⟩
theorem Step.pure {b : Addr × Addr} {H H' : Hp} (h : Bag H b) (e : Ex H H') : Step b H H' := ⟨h.ex e, mask_ex e⟩
theorem Step.draw {b : Addr × Addr} {H H' : Hp} (h : Bag H' b) (e : ∀ a, a ≠ b.1 → H' a = H a) : Step b H H' := ⟨h, mask_same e⟩
theorem Step.at {b : Addr × Addr} {a : Addr} {H H' : Hp} {o : HO} (h : Step b H H') (hn : a ≠ b.1) (ha : H a = some o) : H' a = some o := by
  have := h.2 a o (by rw [mask_at hn]; exact ha)
  rw [mask_at hn] at this
  exact this
theorem Step.free {b : Addr × Addr} {p : Addr} {H H' : Hp} (h : Step b H H') (hp : H' p = none) : H p = none := by
  have hn := h.1.ne hp
  cases q : H p with
  | none => rfl
  | some o =>
    rw [h.at hn q] at hp
    cases hp
/-- a list of one's own is changed -/
theorem Step.put {b : Addr × Addr} {p : Addr} {H H' : Hp} {o : HO} (h : Step b H H') (hb : Bag H b) (hp : H p = none) : Step b H (upd H' p o) := by
  have hn := hb.ne hp
  have hn2 := hb.ne2 hp
  refine ⟨?_, fun a u ha => ?_⟩
  · obtain ⟨x, y, z, ns, h1, h2, h3⟩ := h.1
    refine ⟨x, y, z, ns, ?_, ?_, h3⟩
    · rw [upd_ne hn.symm]
      exact h1
    · rw [upd_ne hn2.symm]
      exact h2
  · have hap : a ≠ p := by
      rintro rfl
      rw [mask_at hn, hp] at ha
      cases ha
    by_cases q : a = b.1
    · subst q
      rw [mask_self] at ha
      cases ha
    · rw [mask_at q, upd_ne hap]
      have := h.2 a u ha
      rw [mask_at q] at this
      exact this
theorem s_retLst4 {te : TE} {σ : L2.St} {H : Hp} {xs : List V} {x y z : V} {D : Ends} (h : EvL te σ H xs) (k : ∀ c H1, H c = none → Ex H H1 → H1 c = some (.lst xs) → ∀ p, H1 p = none → D.rt (.ref p) (upd H1 p (.lst [x, y, z, .ref c]))) :
    tRet (tLst (tCons (tC x) (tCons (tC y) (tCons (tC z) (tCons te tNil))))) D σ H := h H (Ex.refl H) _ fun c H1 c0 e hc => ⟨(by show 4 ≤ sizeLine; decide), fun p hp => k c H1 c0 e hc p hp⟩
/-! ### tests with some answer -/
def TAny (R : Hp → Hp → Prop) (tt : TT) (σ : L2.St) (H : Hp) : Prop := ∀ Q : Bool → Hp → Prop, (∀ c H2, R H H2 → Q c H2) → tt σ H Q
section
variable {b : Addr × Addr} {σ : L2.St} {H : Hp} {t u : TT} {D : Ends} {ta tb : TS}
theorem tany_ev {c : Bool} (hb : Bag H b) (h : EvT t σ H c) : TAny (Step b) t σ H := fun Q q => h H (Ex.refl H) Q fun H2 e => q c H2 (.pure hb e)
theorem tany_or (h1 : TAny (Step b) t σ H) (h2 : ∀ H2, Step b H H2 → TAny (Step b) u σ H2) : TAny (Step b) (tOr t u) σ H := fun Q q => h1 _ fun c H2 s => by
  cases c with
  | true => exact iteT (q true H2 s)
  | false => exact iteF (h2 H2 s Q fun c H3 s3 => q c H3 (s.trans s3))
theorem tany_and (h1 : TAny (Step b) t σ H) (h2 : ∀ H2, Step b H H2 → TAny (Step b) u σ H2) : TAny (Step b) (tAnd t u) σ H := fun Q q => h1 _ fun c H2 s => by
  cases c with
  | true => exact iteT (h2 H2 s Q fun c H3 s3 => q c H3 (s.trans s3))
  | false => exact iteF (q false H2 s)
theorem s_any (h : TAny (Step b) t σ H) (k : ∀ H2, Step b H H2 → ta D σ H2 ∧ tb D σ H2) : tIfS t ta tb D σ H := h _ fun c H2 s => by
  cases c with
  | true => exact (k H2 s).1
  | false => exact (k H2 s).2
end
end Lf
end
section
set_option Elab.async false
set_option linter.all false
set_option maxRecDepth 100000
set_option maxHeartbeats 4000000
/-! Lt: draws of any size, and what is evaluated amid draws, up to a word of the value. -/
namespace Lf
open PySem PySem.Spec PyProof.Rows L2
open Evl
theorem divW {i j : Int} (h0 : 0 < j) (h : j ≤ 1000000000000000000000000000000) : CDivW i j := wide_div (b := 100) h0 (by
  have e : (2 : Nat) ^ 100 = 1267650600228229401496703205376 := by decide
  rw [e]
  omega) (by decide) (by decide)
def spTk : Sp := fun vs H Q _ => ∃ (b : Addr × Addr) (many : Int), vs = [.ref b.1, .int many] ∧ Bag H b ∧ (0 < many ∧ many ≤ 1000000000000000000000000000000) ∧ ∀ v H', 0 ≤ v → v < many → Bag H' b → (∀ a, a ≠ b.1 → H' a = H a) → Q (.int v) H'
def spBag (K : PySem.W.Frag) : Sp := fun vs H Q _ => ∃ (a : Addr) (ns : List Int), vs = [.ref a] ∧ SqL K H a (ns.map V.int) ∧ ns.length ≤ 63 ∧ ∀ (b : Addr × Addr) (H' : Hp), Ex H H' → H b.1 = none → Bag H' b → Q (.ref b.1) H'
def spLaw (K : PySem.W.Frag) : Sp := fun vs H Q _ => ∃ (a : Addr) (ns : List Int), vs = [.ref a] ∧ SqL K H a (ns.map V.int) ∧ ns.length ≤ 63 ∧ ∀ H', Q (.bl true) H'
/-- e gives an int of which p, with draws -/
def Dr (b : Addr × Addr) (te : TE) (σ : L2.St) (H : Hp) (P : V → Prop) : Prop := ∀ H1, Step b H H1 → ∀ Q : VK, (∀ v H2, Step b H1 H2 → P v → Q v H2) → te σ H1 Q
def DrI (b : Addr × Addr) (te : TE) (σ : L2.St) (H : Hp) (p : Int → Prop) : Prop := ∀ H1, Step b H H1 → ∀ Q : VK, (∀ (i : Int) H2, Step b H1 H2 → p i → Q (.int i) H2) → te σ H1 Q
def DrA (b : Addr × Addr) (ta : TA) (σ : L2.St) (H : Hp) (P : List V → Prop) : Prop := ∀ H1, Step b H H1 → ∀ Q : List V → Hp → Prop, (∀ vs H2, Step b H1 H2 → P vs → Q vs H2) → ta σ H1 Q
section
variable {K : PySem.W.Frag} {b : Addr × Addr} {σ : L2.St} {H H' : Hp} {ta tb te tx : TE} {P P' : V → Prop} {p q r : Int → Prop}
theorem DrI.mono (s : Step b H H') (h : DrI b te σ H p) : DrI b te σ H' p := fun H1 s1 Q q => h H1 (s.trans s1) Q q
theorem Dr.mono (s : Step b H H') (h : Dr b te σ H P) : Dr b te σ H' P := fun H1 s1 Q q => h H1 (s.trans s1) Q q
theorem DrI.imp (h : DrI b te σ H p) (k : ∀ i, p i → q i) : DrI b te σ H q := fun H1 s1 Q w => h H1 s1 Q fun i H2 s2 e => w i H2 s2 (k i e)
theorem dri_of (h : Dr b te σ H fun v => ∃ i, v = .int i ∧ p i) : DrI b te σ H p := fun H1 s Q k => h H1 s Q fun v H2 s2 ⟨i, e, pi⟩ => by
  subst e
  exact k i H2 s2 pi
theorem DrI.dr (h : DrI b te σ H p) : Dr b te σ H fun v => ∃ i, v = .int i ∧ p i := fun H1 s Q k => h H1 s Q fun i H2 s2 pi => k _ H2 s2 ⟨i, rfl, pi⟩
theorem dri_c {i : Int} (h : p i) : DrI b (tC (.int i)) σ H p := fun H1 s Q k => k i H1 (.refl s.1) h
theorem dri_var {i : Int} {n : Nat} (hn : σ[n]? = some (some (.int i))) (h : p i) : DrI b (tVar n) σ H p := fun H1 s Q k => ⟨_, hn, k i H1 (.refl s.1) h⟩
theorem dri_take {E : XK} {n : Nat} {tm : TE} (hn : σ[n]? = some (some (.ref b.1))) (hm : DrI b tm σ H fun m => (0 < m ∧ m ≤ 1000000000000000000000000000000) ∧ ∀ v, 0 ≤ v → v < m → p v) : DrI b (tCl spTk E (tCons (tVar n) (tCons tm tNil))) σ H p := fun H1 s Q k =>
  ⟨_, hn, hm H1 s _ fun m H2 s2 ⟨⟨h0, h1⟩, hp⟩ => ⟨b, m, rfl, s2.1, ⟨h0, h1⟩, fun v H3 v0 v1 b3 d3 => k v H3 (s2.trans (.draw b3 d3)) (hp v v0 v1)⟩⟩
theorem dri_tk {E : XK} {n : Nat} {m : Int} (hn : σ[n]? = some (some (.ref b.1))) (h0 : 0 < m) (h1 : m ≤ 1000000000000000000000000000000) : DrI b (tCl spTk E (tCons (tVar n) (tCons (tC (.int m)) tNil))) σ H fun x => 0 ≤ x ∧ x < m := dri_take hn (dri_c ⟨⟨h0, h1⟩, fun _ v0 v1 => ⟨v0, v1⟩⟩)
theorem dri_tkv {E : XK} {n j : Nat} {m : Int} (hn : σ[n]? = some (some (.ref b.1))) (hj : σ[j]? = some (some (.int m))) (h0 : 0 < m) (h1 : m ≤ 1000000000000000000000000000000) : DrI b (tCl spTk E (tCons (tVar n) (tCons (tVar j) tNil))) σ H fun x => 0 ≤ x ∧ x < m := dri_take hn (dri_var hj ⟨⟨h0, h1⟩, fun _ v0 v1 => ⟨v0, v1⟩⟩)
theorem dri_I0 {g : Int → Int → Int} (h1 : DrI b ta σ H p) (h2 : DrI b tb σ H q) (h : ∀ i j, p i → q j → r (g i j)) : DrI b (tOp (rI0 fun i j => .int (g i j)) ta tb) σ H r := fun H1 s Q k =>
  h1 H1 s _ fun i H2 s2 pi => h2 H2 (s.trans s2) _ fun j H3 s3 qj => ⟨i, j, rfl, rfl, k _ H3 (s2.trans s3) (h i j pi qj)⟩
theorem dri_I {C : Int → Int → Prop} {g : Int → Int → Int} (h1 : DrI b ta σ H p) (h2 : DrI b tb σ H q) (h : ∀ i j, p i → q j → C i j ∧ r (g i j)) : DrI b (tOp (rI C fun i j => .int (g i j)) ta tb) σ H r := fun H1 s Q k =>
  h1 H1 s _ fun i H2 s2 pi => h2 H2 (s.trans s2) _ fun j H3 s3 qj => ⟨i, j, rfl, rfl, (h i j pi qj).1, k _ H3 (s2.trans s3) (h i j pi qj).2⟩
theorem dri_neg (h1 : DrI b ta σ H p) (h : ∀ i, p i → r (-i)) : DrI b (tUn (rU fun i => .int (-i)) ta) σ H r := fun H1 s Q k => h1 H1 s _ fun i H2 s2 pi => ⟨i, rfl, k _ H2 s2 (h i pi)⟩
/-- items of a display, each of which P -/
theorem dra_nil {n : Nat} (h : n = 0) : DrA b tNil σ H fun vs => vs.length = n ∧ ∀ v ∈ vs, P v := fun H1 s Q k => k [] H1 (.refl s.1) ⟨h ▸ rfl, fun v hv => by simp at hv⟩
theorem dra_cons {n : Nat} {ta : TA} (h : Dr b te σ H P) (ht : DrA b ta σ H fun vs => vs.length = n ∧ ∀ v ∈ vs, P v) : DrA b (tCons te ta) σ H fun vs => vs.length = n + 1 ∧ ∀ v ∈ vs, P v := fun H1 s Q k =>
  h H1 s _ fun v H2 s2 pv => ht H2 (s.trans s2) _ fun vs H3 s3 ⟨hl, hp⟩ => k (v :: vs) H3 (s2.trans s3) ⟨by rw [List.length_cons, hl], fun u hu => by
    rcases List.mem_cons.mp hu with rfl | hu
    · exact pv
    · exact hp u hu⟩
theorem atI_in {xs : List V} {i : Int} (h0 : 0 ≤ i) (h1 : i < xs.length) : ∃ v, atI xs i = some v ∧ v ∈ xs := by
  obtain ⟨n, rfl⟩ := Int.eq_ofNat_of_zero_le h0
  have hn : n < xs.length := by omega
  exact ⟨xs[n], atI_nat (by rw [List.getElem?_eq_getElem hn]), List.getElem_mem hn⟩
/-- [a, b, ..][i] -/
theorem dr_pick {n : Nat} {ta : TA} (h : DrA b ta σ H fun vs => vs.length = n ∧ ∀ v ∈ vs, P v) (hi : DrI b tb σ H fun i => 0 ≤ i ∧ i < n) (hn : n ≤ 1000) : Dr b (tOp (rIxL K) (tLst ta) tb) σ H P := fun H1 s Q k =>
  h H1 s _ fun vs H2 s2 ⟨hl, hp⟩ => ⟨Nat.le_trans (by rw [hl]; exact hn) (by decide : (1000 : Nat) ≤ sizeLine), fun l hl0 => hi _ ((s.trans s2).trans (.pure s2.1 (Ex.new hl0))) _ fun i H3 s3 ⟨i0, i1⟩ => by
    have nl : l ≠ b.1 := s2.1.ne hl0
    have hl3 : H3 l = some (.lst vs) := s3.at nl upd_same
    obtain ⟨v, e, hv⟩ := atI_in (xs := vs) i0 (by rw [hl]; exact i1)
    exact ⟨l, vs, i, v, rfl, rfl, sq_of hl3, e, k v H3 ((s2.trans (.pure s2.1 (Ex.new hl0))).trans s3) (hp v hv)⟩⟩
theorem dri_pick {n : Nat} {ta : TA} (h : DrA b ta σ H fun vs => vs.length = n ∧ ∀ v ∈ vs, ∃ i, v = .int i ∧ p i) (hi : DrI b tb σ H fun i => 0 ≤ i ∧ i < n) (hn : n ≤ 1000) : DrI b (tOp (rIxL K) (tLst ta) tb) σ H p := dri_of (dr_pick h hi hn)
theorem ev_dr {v : V} (h : Ev te σ H v) (hb : Bag H b) (hp : P v) (hs : ∀ H1, Step b H H1 → Ev te σ H1 v) : Dr b te σ H P := fun H1 s Q k => hs H1 s H1 (Ex.refl _) Q fun H2 e => k v H2 (.pure s.1 e) hp
variable {D : Ends} {tz : TS} {g : TG}
theorem q_dri (hb : Bag H b) (h : DrI b te σ H p) (k : ∀ i H1, Step b H H1 → p i → g (.int i) σ H1 (tz D)) : tSeq (tAsg te g) tz D σ H := h H (.refl hb) _ k
theorem q_dr (hb : Bag H b) (h : Dr b te σ H P) (k : ∀ v H1, Step b H H1 → P v → g v σ H1 (tz D)) : tSeq (tAsg te g) tz D σ H := h H (.refl hb) _ k
end
end Lf
end
section
set_option Elab.async false
set_option linter.all false
set_option maxRecDepth 100000
set_option maxHeartbeats 4000000
/-! Wm: the mathematics of webs, and their data. -/
namespace Wm
open PySem PySem.Spec PyProof.Rows L2
open Evl
abbrev PS := List (Nat × Nat)
def dP (p : Nat × Nat) : PyData := .tuple [.int p.1, .int p.2]
def dPs (ps : PS) : PyData := .list (ps.map dP)
def dN (ns : List Nat) : PyData := .list (ns.map fun n : Nat => .int (n : Int))
def dNs (rows : List (List Nat)) : PyData := .list (rows.map dN)
def vN (ns : List Nat) : List V := ns.map fun n : Nat => V.int (n : Int)
def lexP (p q : Nat × Nat) : Bool := HT.lexLt [(p.1 : Int), p.2] [(q.1 : Int), q.2]
def lt2 (p q : Nat × Nat) : Prop := p.1 < q.1 ∨ (p.1 = q.1 ∧ p.2 < q.2)
def risesB (ps : PS) : Bool := ((List.range (ps.length - 1)).map fun i => lexP (ps.getD i (0, 0)) (ps.getD (i + 1) (0, 0))).all id
/-- pairs of so many places, the lesser first, rising -/
structure Good (many : Nat) (ps : PS) : Prop where
  m2 : 2 ≤ many
  m10 : many ≤ 10
  lt : ∀ p ∈ ps, p.1 < p.2 ∧ p.2 < many
  pw : ps.Pairwise lt2
  few : ps.length ≤ 1000
theorem lexP_of {p q : Nat × Nat} (h : lt2 p q) : lexP p q = true := by
  unfold lexP
  show (if (p.1 : Int) = q.1 then (if (p.2 : Int) = q.2 then HT.lexLt [] [] else decide ((p.2 : Int) < q.2)) else decide ((p.1 : Int) < q.1)) = true
  rcases h with h | ⟨h1, h2⟩
  · rw [if_neg (by omega), decide_eq_true (by omega)]
  · rw [if_pos (by omega), if_neg (by omega), decide_eq_true (by omega)]
theorem Good.rise {many : Nat} {ps : PS} (g : Good many ps) : risesB ps = true := by
  unfold risesB
  rw [List.all_map, List.all_eq_true]
  intro i hi
  have hi := List.mem_range.mp hi
  have h1 : i < ps.length := by omega
  have h2 : i + 1 < ps.length := by omega
  show lexP (ps.getD i (0, 0)) (ps.getD (i + 1) (0, 0)) = true
  rw [List.getD_eq_getElem?_getD, List.getD_eq_getElem?_getD, List.getElem?_eq_getElem h1, List.getElem?_eq_getElem h2]
  exact lexP_of (List.pairwise_iff_getElem.mp g.pw i (i + 1) h1 h2 (Nat.lt_succ_self i))
def rowOf (ps : PS) (i : Nat) : List Nat := ps.filterMap fun p => if p.1 = i then some p.2 else if p.2 = i then some p.1 else none
def nearOf (many : Nat) (ps : PS) : List (List Nat) := (List.range many).map (rowOf ps)
def adj (ps : PS) (i j : Nat) : Bool := decide (j ∈ rowOf ps i)
def touch (ps : PS) (i j : Nat) : Bool := (rowOf ps i).any fun x => decide (x ∈ rowOf ps j)
def clash (ps : PS) (i j : Nat) : Bool := !decide (i = j) && (adj ps i j || touch ps i j)
/-! ### the least number that is not barred -/
theorem len_ge : ∀ (n : Nat) (b : List Nat), (∀ m, m < n → m ∈ b) → n ≤ b.length
  | 0, _, _ => Nat.zero_le _
  | n + 1, b, h => by
    have h1 := len_ge n (b.erase n) fun m hm => (List.mem_erase_of_ne (by omega)).mpr (h m (by omega))
    rw [List.length_erase_of_mem (h n (by omega))] at h1
    have := List.length_pos_of_mem (h n (by omega))
    omega
def leastFrom (b : List Nat) : Nat → Nat → Nat
  | 0, n => n
  | f + 1, n => if n ∈ b then leastFrom b f (n + 1) else n
def least (b : List Nat) : Nat := leastFrom b (b.length + 1) 0
theorem leastFrom_spec (b : List Nat) : ∀ (f n : Nat), b.length < f + n → (∀ m, m < n → m ∈ b) → leastFrom b f n ∉ b ∧ ∀ m, m < leastFrom b f n → m ∈ b
  | 0, n, hf, h => by have := len_ge n b h; omega
  | f + 1, n, hf, h => by
    unfold leastFrom
    by_cases e : n ∈ b
    · rw [if_pos e]
      exact leastFrom_spec b f (n + 1) (by omega) fun m hm => by
        by_cases q : m = n
        · exact q ▸ e
        · exact h m (by omega)
    · rw [if_neg e]
      exact ⟨e, h⟩
theorem least_not (b : List Nat) : least b ∉ b := (leastFrom_spec b (b.length + 1) 0 (by omega) (by omega)).1
theorem least_in (b : List Nat) : ∀ m, m < least b → m ∈ b := (leastFrom_spec b (b.length + 1) 0 (by omega) (by omega)).2
theorem least_le (b : List Nat) : least b ≤ b.length := len_ge _ b (least_in b)
theorem least_eq {b : List Nat} {n : Nat} (h1 : n ∉ b) (h2 : ∀ m, m < n → m ∈ b) : least b = n := by
  rcases Nat.lt_trichotomy n (least b) with h | h | h
  · exact absurd (least_in b n h) h1
  · exact h.symm
  · exact absurd (h2 _ h) (least_not b)
/-! ### slots -/
def slotsUpto (ps : PS) : Nat → List Nat
  | 0 => []
  | n + 1 => slotsUpto ps n ++ [least (((List.range n).filter fun l => clash ps l n).map fun l => (slotsUpto ps n).getD l 0)]
theorem slots_len (ps : PS) : ∀ n, (slotsUpto ps n).length = n
  | 0 => rfl
  | n + 1 => by
    show (slotsUpto ps n ++ _).length = n + 1
    rw [List.length_append, slots_len ps n]
    rfl
/-! ### values -/
theorem inV_nat (n : Nat) (b : List Nat) : inV (.int (n : Int)) (vN b) = decide (n ∈ b) := by
  unfold vN
  induction b with
  | nil => rfl
  | cons x r ih =>
    show (eqV (V.int (x : Int)) (.int (n : Int)) || inV (.int (n : Int)) (r.map fun n : Nat => V.int (n : Int))) = _
    rw [ih]
    by_cases e : n = x
    · subst e
      simp [eqV]
    · have e2 : ¬ ((x : Int) = (n : Int)) := fun q => e (by omega)
      simp [eqV, e, e2, List.mem_cons]
theorem vN_flat (b : List Nat) : (vN b).all flatV = true := by
  unfold vN
  induction b with
  | nil => rfl
  | cons x r ih => rw [List.map_cons, List.all_cons, ih]; rfl
theorem vN_len (b : List Nat) : (vN b).length = b.length := List.length_map ..
theorem vN_get {b : List Nat} {i n : Nat} (h : b[i]? = some n) : (vN b)[i]? = some (.int (n : Int)) := by
  unfold vN
  rw [List.getElem?_map, h]
  rfl
theorem vN_inv {K : PySem.W.Frag} {H : Hp} {ns : List Nat} {vs : List V} (h : DpAll K H vs (ns.map fun n : Nat => PyData.int (n : Int))) : vs = vN ns := by
  have e : (ns.map fun n : Nat => PyData.int (n : Int)) = (ns.map fun n : Nat => (n : Int)).map PyData.int := by rw [List.map_map]; rfl
  rw [e] at h
  rw [Lf.Dps.ints_inv h, List.map_map]
  rfl
theorem dN_list {K : PySem.W.Frag} {H : Hp} {ns : List Nat} {v : V} (h : Dp K H v (dN ns)) : ∃ a, v = .ref a ∧ SqL K H a (vN ns) := by
  obtain ⟨a, xs, e, h1, h2⟩ := Lf.dp_list h
  rw [vN_inv h2] at h1
  exact ⟨a, e, h1⟩
theorem vN_dps {K : PySem.W.Frag} {H : Hp} : ∀ ns : List Nat, DpAll K H (vN ns) (ns.map fun n : Nat => PyData.int (n : Int))
  | [] => .nil
  | n :: ns => .cons (.int _) (vN_dps ns)
theorem dP_tup {K : PySem.W.Frag} {H : Hp} {p : Nat × Nat} {v : V} (h : Dp K H v (dP p)) : ∃ a, v = .ref a ∧ SqT K H a [.int p.1, .int p.2] := by
  obtain ⟨a, xs, e, h1, h2⟩ := Lf.dp_tup h
  have e2 := Lf.Dps.ints_inv (ns := [(p.1 : Int), p.2]) h2
  rw [e2] at h1
  exact ⟨a, e, h1⟩
theorem dPs_list {K : PySem.W.Frag} {H : Hp} {ps : PS} {v : V} (h : Dp K H v (dPs ps)) : ∃ a xs, v = .ref a ∧ SqL K H a xs ∧ xs.length = ps.length ∧ ∀ (i : Nat) (x : V), xs[i]? = some x → ∃ p t, ps[i]? = some p ∧ x = .ref t ∧ SqT K H t [.int p.1, .int p.2] := by
  obtain ⟨a, xs, e, h1, h2⟩ := Lf.dp_list h
  refine ⟨a, xs, e, h1, by rw [Lf.Dps.len h2, List.length_map], fun i x hx => ?_⟩
  obtain ⟨d, hd, hp⟩ := Lf.Dps.get h2 hx
  rw [List.getElem?_map] at hd
  obtain ⟨p, e1, rfl⟩ := Option.map_eq_some_iff.mp hd
  obtain ⟨t, e2, h3⟩ := dP_tup hp
  exact ⟨p, t, e1, e2, h3⟩
theorem dNs_list {K : PySem.W.Frag} {H : Hp} {rows : List (List Nat)} {v : V} (h : Dp K H v (dNs rows)) : ∃ a xs, v = .ref a ∧ SqL K H a xs ∧ xs.length = rows.length ∧ ∀ (i : Nat) (row : List Nat), rows[i]? = some row → ∃ t, xs[i]? = some (.ref t) ∧ SqL K H t (vN row) := by
  obtain ⟨a, xs, e, h1, h2⟩ := Lf.dp_list h
  refine ⟨a, xs, e, h1, by rw [Lf.Dps.len h2, List.length_map], fun i row hr => ?_⟩
  obtain ⟨x, hx, hp⟩ := Lf.Dps.get2 h2 (i := i) (d := dN row) (by rw [List.getElem?_map, hr]; rfl)
  obtain ⟨t, e2, h3⟩ := dN_list hp
  exact ⟨t, by rw [hx, e2], h3⟩
/-- all items but the first -/
theorem cut1 (xs : List V) : cutV xs (some 1) none = xs.drop 1 := by
  unfold cutV
  have e1 : HT.sIx xs.length 0 (some 1) = min 1 xs.length := HT.sIx_nat xs.length 0 1
  rw [e1, HT.sIx_none]
  cases xs with
  | nil => rfl
  | cons x r =>
    have e2 : min 1 (x :: r).length = 1 := by
      rw [List.length_cons]
      omega
    rw [e2]
    show List.take ((x :: r).length - 1) r = r
    rw [List.length_cons, Nat.add_sub_cancel, List.take_length]
/-- a list of data by its places -/
theorem dps_of {K : PySem.W.Frag} {H : Hp} : ∀ {vs : List V} {ds : List PyData}, vs.length = ds.length → (∀ (i : Nat) v d, vs[i]? = some v → ds[i]? = some d → Dp K H v d) → DpAll K H vs ds
  | [], [], _, _ => .nil
  | [], _ :: _, h, _ => by cases h
  | _ :: _, [], h, _ => by cases h
  | v :: vs, d :: ds, h, f => .cons (f 0 v d rfl rfl) (dps_of (by simpa using h) fun i v' d' h1 h2 => f (i + 1) v' d' (by simpa using h1) (by simpa using h2))
end Wm
end
section
set_option Elab.async false
set_option linter.all false
set_option maxRecDepth 100000
set_option maxHeartbeats 4000000
namespace Wm
open PySem PySem.Spec PyProof.Rows L2 Lf
open Evl
/-! ### what may be compared and shown -/
theorem canAll : ∀ {ds : List PyData}, (∀ d ∈ ds, PyData.canLay0 d = true) → PyData.canLayAll0 ds = true
  | [], _ => rfl
  | d :: ds, h => by
    show (PyData.canLay0 d && PyData.canLayAll0 ds) = true
    rw [h d List.mem_cons_self, canAll fun e he => h e (List.mem_cons_of_mem _ he)]
    rfl
theorem depAll {n : Nat} : ∀ {ds : List PyData}, (∀ d ∈ ds, PyData.depth d ≤ n) → PyData.depthAll ds ≤ n
  | [], _ => Nat.zero_le _
  | d :: ds, h => by
    show max (PyData.depth d) (PyData.depthAll ds) ≤ n
    have h1 := h d List.mem_cons_self
    have h2 := depAll fun e he => h e (List.mem_cons_of_mem _ he)
    omega
/-- data of depth n at most -/
structure Sh (n : Nat) (d : PyData) : Prop where
  can : PyData.canLay0 d = true
  dep : PyData.depth d ≤ n
theorem Sh.mono {m n : Nat} {d : PyData} (h : Sh m d) (e : m ≤ n) : Sh n d := ⟨h.can, Nat.le_trans h.dep e⟩
theorem Sh.shaped {n : Nat} {d : PyData} (h : Sh n d) (e : n ≤ 64) : SeqAt.shaped d = true := by
  show (PyData.canLay0 d && decide (PyData.depth d ≤ 64)) = true
  rw [h.can, decide_eq_true (Nat.le_trans h.dep e)]
  rfl
theorem Sh.int (i : Int) : Sh 0 (.int i) := ⟨rfl, Nat.le_refl _⟩
theorem Sh.non : Sh 0 .none := ⟨rfl, Nat.le_refl _⟩
theorem Sh.bl (b : Bool) : Sh 0 (.bool b) := ⟨rfl, Nat.le_refl _⟩
theorem Sh.list {n : Nat} {ds : List PyData} (h : ∀ d ∈ ds, Sh n d) : Sh (n + 1) (.list ds) := ⟨canAll fun d hd => (h d hd).can, Nat.succ_le_succ (depAll fun d hd => (h d hd).dep)⟩
theorem Sh.tup {n : Nat} {ds : List PyData} (h : ∀ d ∈ ds, Sh n d) : Sh (n + 1) (.tuple ds) := ⟨canAll fun d hd => (h d hd).can, Nat.succ_le_succ (depAll fun d hd => (h d hd).dep)⟩
theorem sh_dP (p : Nat × Nat) : Sh 1 (dP p) := Sh.tup (n := 0) fun d hd => by
  rcases List.mem_cons.mp hd with rfl | hd
  · exact Sh.int _
  · rcases List.mem_cons.mp hd with rfl | hd
    · exact Sh.int _
    · cases hd
theorem sh_dPs (ps : PS) : Sh 2 (dPs ps) := Sh.list fun d hd => by
  obtain ⟨p, _, rfl⟩ := List.mem_map.mp hd
  exact sh_dP p
theorem sh_dN (ns : List Nat) : Sh 1 (dN ns) := Sh.list fun d hd => by
  obtain ⟨p, _, rfl⟩ := List.mem_map.mp hd
  exact Sh.int _
theorem sh_dNs (rows : List (List Nat)) : Sh 2 (dNs rows) := Sh.list fun d hd => by
  obtain ⟨p, _, rfl⟩ := List.mem_map.mp hd
  exact sh_dN p
theorem non_dPs (ps : PS) : ((ps.map dP).any fun z => PyData.eqv z .none) = false := by
  rw [List.any_eq_false]
  intro d hd
  obtain ⟨p, _, rfl⟩ := List.mem_map.mp hd
  exact fun h => Bool.noConfusion h
/-! ### a list of pairs whose tuples are told -/
def PairsIn (H : Hp) (ws : List V) (ps : PS) : Prop := ws.length = ps.length ∧ ∀ (i : Nat) (p : Nat × Nat), ps[i]? = some p → ∃ t, ws[i]? = some (.ref t) ∧ H t = some (.tup [.int p.1, .int p.2])
theorem PairsIn.ex {H H' : Hp} {ws : List V} {ps : PS} (h : PairsIn H ws ps) (e : Ex H H') : PairsIn H' ws ps := ⟨h.1, fun i p hp => let ⟨t, h1, h2⟩ := h.2 i p hp; ⟨t, h1, e _ _ h2⟩⟩
theorem PairsIn.upd {H : Hp} {ws us vs : List V} {ps : PS} {D : Addr} (h : PairsIn H ws ps) (hD : H D = some (.lst us)) : PairsIn (upd H D (.lst vs)) ws ps := ⟨h.1, fun i p hp => by
  obtain ⟨t, h1, h2⟩ := h.2 i p hp
  refine ⟨t, h1, ?_⟩
  rw [upd_ne (ne_of h2 hD (by intro z; cases z))]
  exact h2⟩
theorem PairsIn.nil (H : Hp) : PairsIn H [] [] := ⟨rfl, fun i p hp => by simp at hp⟩
theorem PairsIn.snoc {H : Hp} {ws : List V} {ps : PS} {t : Addr} {p : Nat × Nat} (h : PairsIn H ws ps) (ht : H t = some (.tup [.int p.1, .int p.2])) : PairsIn H (ws ++ [.ref t]) (ps ++ [p]) := by
  refine ⟨by rw [List.length_append, List.length_append, h.1] <;> rfl, fun i q hq => ?_⟩
  by_cases hi : i < ps.length
  · rw [List.getElem?_append_left hi] at hq
    obtain ⟨u, h1, h2⟩ := h.2 i q hq
    exact ⟨u, by rw [List.getElem?_append_left (by rw [h.1]; exact hi)]; exact h1, h2⟩
  · rw [List.getElem?_append_right (by omega)] at hq
    have e0 : i - ps.length = 0 := by
      have := (List.getElem?_eq_some_iff.mp hq).1
      simp at this
      omega
    rw [e0] at hq
    have e1 : p = q := Option.some.inj hq
    subst e1
    refine ⟨t, ?_, ht⟩
    rw [List.getElem?_append_right (by rw [h.1]; omega), h.1, e0]
    rfl
theorem PairsIn.dps {K : PySem.W.Frag} {H : Hp} {ws : List V} {ps : PS} (h : PairsIn H ws ps) : DpAll K H ws (ps.map dP) := by
  refine dps_of (by rw [h.1, List.length_map]) fun i v d h1 h2 => ?_
  rw [List.getElem?_map] at h2
  obtain ⟨p, e1, rfl⟩ := Option.map_eq_some_iff.mp h2
  obtain ⟨t, e2, h3⟩ := h.2 i p e1
  rw [h1] at e2
  cases e2
  exact .tup (.inl (.inl h3)) (.cons (.int _) (.cons (.int _) .nil))
theorem PairsIn.dp {K : PySem.W.Frag} {H : Hp} {a : Addr} {ws : List V} {ps : PS} (h : PairsIn H ws ps) (ha : SqL K H a ws) : Dp K H (.ref a) (dPs ps) := .lst ha h.dps
/-! ### rows of numbers in lists of their own -/
def RowsIn (H : Hp) (ws : List V) (rows : List (List Nat)) : Prop := ws.length = rows.length ∧ (∀ (i : Nat) (row : List Nat), rows[i]? = some row → ∃ t, ws[i]? = some (.ref t) ∧ H t = some (.lst (vN row))) ∧ ∀ (i j : Nat) (t : Addr), ws[i]? = some (.ref t) → ws[j]? = some (.ref t) → i = j
theorem RowsIn.dps {K : PySem.W.Frag} {H : Hp} {ws : List V} {rows : List (List Nat)} (h : RowsIn H ws rows) : DpAll K H ws (rows.map dN) := by
  refine dps_of (by rw [h.1, List.length_map]) fun i v d h1 h2 => ?_
  rw [List.getElem?_map] at h2
  obtain ⟨row, e1, rfl⟩ := Option.map_eq_some_iff.mp h2
  obtain ⟨t, e2, h3⟩ := h.2.1 i row e1
  rw [h1] at e2
  cases e2
  exact .lst (.inl (.inl h3)) (vN_dps row)
theorem RowsIn.put {H : Hp} {ws : List V} {rows : List (List Nat)} {i n : Nat} {row : List Nat} {t : Addr} (h : RowsIn H ws rows) (hr : rows[i]? = some row) (ht : ws[i]? = some (.ref t)) : RowsIn (upd H t (.lst (vN row ++ [.int (n : Int)]))) ws (rows.set i (row ++ [n])) := by
  refine ⟨by rw [List.length_set]; exact h.1, fun j row' hj => ?_, h.2.2⟩
  by_cases e : i = j
  · subst e
    rw [List.getElem?_set_self (List.getElem?_eq_some_iff.mp hr).1] at hj
    cases hj
    refine ⟨t, ht, ?_⟩
    rw [upd_same]
    unfold vN
    rw [List.map_append]
    rfl
  · rw [List.getElem?_set_ne e] at hj
    obtain ⟨u, h1, h2⟩ := h.2.1 j row' hj
    refine ⟨u, h1, ?_⟩
    have nut : u ≠ t := fun q => e (h.2.2 i j t ht (by rw [← q]; exact h1))
    rw [upd_ne nut]
    exact h2
/-- the rows behind some pairs -/
def rowsUpto (many : Nat) (ps : PS) (k : Nat) : List (List Nat) := (List.range many).map (rowOf (ps.take k))
theorem rowOf_snoc (ps : PS) (p : Nat × Nat) (i : Nat) : rowOf (ps ++ [p]) i = rowOf ps i ++ (if p.1 = i then [p.2] else if p.2 = i then [p.1] else []) := by
  unfold rowOf
  rw [List.filterMap_append]
  congr 1
  by_cases h1 : p.1 = i
  · simp [h1]
  · by_cases h2 : p.2 = i
    · simp [h1, h2]
    · simp [h1, h2]
theorem set_range {α : Type} (n i : Nat) (f : Nat → α) (x : α) (hi : i < n) : ((List.range n).map f).set i x = (List.range n).map fun j => if i = j then x else f j := by
  refine List.ext_getElem? fun j => ?_
  by_cases e : i = j
  · subst e
    rw [List.getElem?_set_self (by simpa using hi), List.getElem?_map, List.getElem?_range hi]
    simp
  · rw [List.getElem?_set_ne e, List.getElem?_map, List.getElem?_map]
    cases h : (List.range n)[j]? with
    | none => rfl
    | some k =>
      have hk : k = j := by
        have := List.getElem?_eq_some_iff.mp h
        obtain ⟨h1, h2⟩ := this
        rw [List.getElem_range] at h2
        exact h2.symm
      subst hk
      simp [e]
theorem rows_step {many k : Nat} {ps : PS} {a b : Nat} (hk : ps[k]? = some (a, b)) (hab : a < b) (hb : b < many) :
    ((rowsUpto many ps k).set a (rowOf (ps.take k) a ++ [b])).set b (rowOf (ps.take k) b ++ [a]) = rowsUpto many ps (k + 1) := by
  unfold rowsUpto
  rw [set_range _ _ _ _ (by omega), set_range _ _ _ _ hb]
  have e : ps.take (k + 1) = ps.take k ++ [(a, b)] := by
    rw [List.take_add_one, hk]
    rfl
  rw [e]
  refine List.map_congr_left fun j _ => ?_
  rw [rowOf_snoc]
  by_cases h1 : b = j
  · subst h1
    have h2 : ¬ a = b := by omega
    simp [h2]
  · by_cases h2 : a = j
    · subst h2
      simp [h1]
    · simp [h1, h2]
theorem near_all (many : Nat) (ps : PS) : rowsUpto many ps ps.length = nearOf many ps := by
  unfold rowsUpto nearOf
  rw [List.take_length]
theorem rows_zero (many : Nat) (ps : PS) : rowsUpto many ps 0 = List.replicate many [] := by
  unfold rowsUpto
  refine List.ext_getElem? fun j => ?_
  rw [List.getElem?_map, List.getElem?_replicate]
  by_cases h : j < many
  · rw [List.getElem?_range h, if_pos h]
    rfl
  · rw [List.getElem?_eq_none (by simpa using h), if_neg h]
    rfl
end Wm
end
section
set_option Elab.async false
set_option linter.all false
set_option maxRecDepth 100000
set_option maxHeartbeats 4000000
namespace Wm
open PySem PySem.Spec PyProof.Rows L2 Lf
open Evl
/-! ### a web's object -/
def webF (m : Nat) (a1 a2 : Addr) : List (Str × V) := [(("_many" : Str), V.int (m : Int)), (("_pairs" : Str), V.ref a1), (("_near" : Str), V.ref a2)]
def WebAt (K : PySem.W.Frag) (C : Addr) (H : Hp) (p : Addr) (m : Nat) (ps : PS) : Prop := Good m ps ∧ ∃ dx a1 a2, H p = some (.ins C dx (webF m a1 a2)) ∧ Dp K H (.ref a1) (dPs ps) ∧ Dp K H (.ref a2) (dNs (nearOf m ps))
theorem WebAt.ex {K : PySem.W.Frag} {C : Addr} {H H' : Hp} {p : Addr} {m : Nat} {ps : PS} (h : WebAt K C H p m ps) (e : Ex H H') : WebAt K C H' p m ps := by
  obtain ⟨g, dx, a1, a2, h1, h2, h3⟩ := h
  exact ⟨g, dx, a1, a2, e _ _ h1, Dp.ex h2 e, Dp.ex h3 e⟩
theorem webF_put (m : Nat) (a1 a2 : Addr) : putF "_near" (.ref a2) (putF "_pairs" (.ref a1) (putF "_many" (.int (m : Int)) [])) = webF m a1 a2 := by
  have n1 : ¬ (("_many" : Str) = "_pairs") := by decide +kernel
  have n2 : ¬ (("_many" : Str) = "_near") := by decide +kernel
  have n3 : ¬ (("_pairs" : Str) = "_near") := by decide +kernel
  show putF "_near" (.ref a2) (putF "_pairs" (.ref a1) [(("_many" : Str), V.int (m : Int))]) = _
  have e1 : putF "_pairs" (.ref a1) [(("_many" : Str), V.int (m : Int))] = [(("_many" : Str), V.int (m : Int)), (("_pairs" : Str), V.ref a1)] := by
    show (if ("_many" : Str) = "_pairs" then _ else _) = _
    rw [if_neg n1]
    rfl
  rw [e1]
  show (if ("_many" : Str) = "_near" then _ else _ :: (if ("_pairs" : Str) = "_near" then _ else _ :: putF "_near" (.ref a2) [])) = _
  rw [if_neg n2, if_neg n3]
  rfl
theorem webF_many (m : Nat) (a1 a2 : Addr) : (webF m a1 a2).lookup ("_many" : Str) = some (.int (m : Int)) := by
  rw [← webF_put, lookup_putF, if_neg (by decide +kernel), lookup_putF, if_neg (by decide +kernel), lookup_putF, if_pos rfl]
theorem webF_pairs (m : Nat) (a1 a2 : Addr) : (webF m a1 a2).lookup ("_pairs" : Str) = some (.ref a1) := by
  rw [← webF_put, lookup_putF, if_neg (by decide +kernel), lookup_putF, if_pos rfl]
theorem webF_near (m : Nat) (a1 a2 : Addr) : (webF m a1 a2).lookup ("_near" : Str) = some (.ref a2) := by
  rw [← webF_put, lookup_putF, if_pos rfl]
theorem webF_no (m : Nat) (a1 a2 : Addr) {x : Str} (h1 : ¬ x = "_many") (h2 : ¬ x = "_pairs") (h3 : ¬ x = "_near") : (webF m a1 a2).lookup x = none := by
  rw [← webF_put, lookup_putF, if_neg h3, lookup_putF, if_neg h2, lookup_putF, if_neg h1]
  rfl
/-! ### data does not hang on an instance -/
theorem rd_ins {H : Hp} {x C dx a : Addr} {fs : List (Str × V)} {o u : HO} (hx : H x = some (.ins C dx fs)) (hu : ∀ C dx fs, u ≠ .ins C dx fs) (h : Rd H a u) : Rd (upd H x o) a u := by
  rcases h with h | ⟨ob, h⟩
  · refine .inl ?_
    rw [upd_ne (ne_of h hx (hu C dx fs))]
    exact h
  · refine .inr ⟨ob, ?_⟩
    rw [upd_ne (ne_of h hx (by intro z; cases z))]
    exact h
mutual
theorem dp_ins {K : PySem.W.Frag} {H : Hp} {x C dx : Addr} {fs : List (Str × V)} {o : HO} (hx : H x = some (.ins C dx fs)) : ∀ (d : PyData) (v : V), Dp K H v d → Dp K (upd H x o) v d
  | .none, _, h => by cases h; exact .non
  | .bool b, _, h => by cases h; exact .bl b
  | .int i, _, h => by cases h; exact .int i
  | .str x, _, h => by cases h; exact .str x
  | .list ds, _, h => by
    cases h with
    | lst h1 h2 => exact .lst (h1.imp (rd_ins hx (by intro _ _ _ z; cases z)) id) (dps_ins hx ds _ h2)
  | .tuple ds, _, h => by
    cases h with
    | tup h1 h2 => exact .tup (h1.imp (rd_ins hx (by intro _ _ _ z; cases z)) id) (dps_ins hx ds _ h2)
  | .dict _, _, h => by cases h
theorem dps_ins {K : PySem.W.Frag} {H : Hp} {x C dx : Addr} {fs : List (Str × V)} {o : HO} (hx : H x = some (.ins C dx fs)) : ∀ (ds : List PyData) (vs : List V), DpAll K H vs ds → DpAll K (upd H x o) vs ds
  | [], _, h => by cases h; exact .nil
  | d :: ds, _, h => by
    cases h with
    | cons h1 h2 => exact .cons (dp_ins hx d _ h1) (dps_ins hx ds _ h2)
end
theorem PairsIn.ins {H : Hp} {x C dx : Addr} {fs : List (Str × V)} {o : HO} {ws : List V} {ps : PS} (h : PairsIn H ws ps) (hx : H x = some (.ins C dx fs)) : PairsIn (L2.upd H x o) ws ps := ⟨h.1, fun i p hp => by
  obtain ⟨t, h1, h2⟩ := h.2 i p hp
  refine ⟨t, h1, ?_⟩
  rw [upd_ne (ne_of h2 hx (by intro z; cases z))]
  exact h2⟩
theorem RowsIn.ins {H : Hp} {x C dx : Addr} {fs : List (Str × V)} {o : HO} {ws : List V} {rows : List (List Nat)} (h : RowsIn H ws rows) (hx : H x = some (.ins C dx fs)) : RowsIn (L2.upd H x o) ws rows := ⟨h.1, fun i p hp => by
  obtain ⟨t, h1, h2⟩ := h.2.1 i p hp
  refine ⟨t, h1, ?_⟩
  rw [upd_ne (ne_of h2 hx (by intro z; cases z))]
  exact h2, h.2.2⟩
theorem RowsIn.ex {H H' : Hp} {ws : List V} {rows : List (List Nat)} (h : RowsIn H ws rows) (e : Ex H H') : RowsIn H' ws rows := ⟨h.1, fun i p hp => let ⟨t, h1, h2⟩ := h.2.1 i p hp; ⟨t, h1, e _ _ h2⟩, h.2.2⟩
/-- a web that was made at H0 -/
def WebNew (C : Addr) (H0 H : Hp) (x : Addr) (m : Nat) (ps : PS) : Prop := Good m ps ∧ ∃ dx a1 a2 ws1 ws2, H x = some (.ins C dx (webF m a1 a2)) ∧ H a1 = some (.lst ws1) ∧ H a2 = some (.lst ws2) ∧ PairsIn H ws1 ps ∧ RowsIn H ws2 (nearOf m ps) ∧ H0 x = none ∧ H0 a1 = none ∧ H0 a2 = none ∧ ∀ (i : Nat) (t : Addr), ws2[i]? = some (.ref t) → H0 t = none
theorem WebNew.at {K : PySem.W.Frag} {C : Addr} {H0 H : Hp} {x : Addr} {m : Nat} {ps : PS} (h : WebNew C H0 H x m ps) : WebAt K C H x m ps := by
  obtain ⟨g, dx, a1, a2, ws1, ws2, h1, h2, h3, h4, h5, _⟩ := h
  exact ⟨g, dx, a1, a2, h1, h4.dp (sq_of h2), .lst (sq_of h3) h5.dps⟩
/-! ### the slots' list holds -/
def slotsHold (m : Nat) (ps : PS) (ns : List Int) : Bool :=
  decide (ns.length = m) && (!(ns.any fun n => decide (n < 0)) && (List.range m).all fun pl => !((List.range pl).any fun l => decide (ns.getD l 0 = ns.getD pl 0) && clash ps l pl))
theorem nearOf_get {m : Nat} {ps : PS} {i : Nat} (h : i < m) : (nearOf m ps)[i]? = some (rowOf ps i) := by
  unfold nearOf
  rw [List.getElem?_map, List.getElem?_range h]
  rfl
theorem any_getD {b : List Nat} (f : Nat → Bool) : b.any f = (List.range b.length).any fun j => f (b.getD j 0) := by
  induction b with
  | nil => rfl
  | cons x r ih =>
    rw [List.length_cons, List.range_succ_eq_map, List.any_cons, List.any_cons, List.any_map, ih]
    rfl
theorem any_getI {b : List Int} {f : Int → Bool} : b.any f = (List.range b.length).any fun j => f (b.getD j 0) := by
  induction b with
  | nil => rfl
  | cons x r ih =>
    rw [List.length_cons, List.range_succ_eq_map, List.any_cons, List.any_cons, List.any_map, ih]
    rfl
theorem given_filter (b : List Nat) (f : Nat → Bool) : given b.length (fun n => f (b.getD n 0)) (fun n => V.int ((b.getD n 0 : Nat) : Int)) = vN (b.filter f) := by
  unfold given vN
  have e : b = (List.range b.length).map fun n => b.getD n 0 := by
    refine List.ext_getElem? fun i => ?_
    by_cases q : i < b.length
    · rw [List.getElem?_map, List.getElem?_range q]
      show b[i]? = some (b.getD i 0)
      rw [List.getD_eq_getElem?_getD, List.getElem?_eq_getElem q]
      rfl
    · rw [List.getElem?_eq_none (by omega), List.getElem?_eq_none (by simpa using q)]
  conv => rhs; rw [e]
  rw [List.filter_map, List.map_map]
  rfl
theorem ne_nil (ns : List Nat) : (!PyData.eqv (dN ns) (.list [])) = !ns.isEmpty := by
  cases ns with
  | nil => rfl
  | cons x r => rfl
theorem filter_any (b : List Nat) (f : Nat → Bool) : (!(b.filter f).isEmpty) = b.any f := by
  induction b with
  | nil => rfl
  | cons x r ih =>
    rw [List.filter_cons, List.any_cons]
    by_cases h : f x = true
    · rw [if_pos h, h]
      rfl
    · rw [if_neg h, ih, Bool.eq_false_iff.mpr h, Bool.false_or]
theorem vN_at {b : List Nat} {j : Nat} {x : V} (h : (vN b)[j]? = some x) : ∃ n : Nat, x = .int (n : Int) ∧ b[j]? = some n := by
  unfold vN at h
  rw [List.getElem?_map] at h
  obtain ⟨n, h1, h2⟩ := Option.map_eq_some_iff.mp h
  exact ⟨n, h2.symm, h1⟩
end Wm
end
section
set_option Elab.async false
set_option linter.all false
set_option maxRecDepth 100000
set_option maxHeartbeats 4000000
namespace Wm
open PySem PySem.Spec PyProof.Rows L2 Lf
open Evl
theorem rowOf_sorted {many : Nat} {ps : PS} (g : Good many ps) (i : Nat) : (rowOf ps i).Pairwise (· < ·) := by
  unfold rowOf
  have h : ps.Pairwise fun p q => lt2 p q ∧ p.1 < p.2 ∧ q.1 < q.2 := by
    refine List.Pairwise.imp_of_mem (fun {p q} hp hq h => ⟨h, (g.lt p hp).1, (g.lt q hq).1⟩) g.pw
  refine List.Pairwise.filterMap _ (fun p q ⟨h1, h2, h3⟩ x hx y hy => ?_) h
  have hx : (if p.1 = i then some p.2 else if p.2 = i then some p.1 else none) = some x := hx
  have hy : (if q.1 = i then some q.2 else if q.2 = i then some q.1 else none) = some y := hy
  have h1 : p.1 < q.1 ∨ (p.1 = q.1 ∧ p.2 < q.2) := h1
  split at hx
  · split at hy
    · cases hx; cases hy; omega
    · split at hy
      · cases hx; cases hy; omega
      · cases hy
  · split at hx
    · split at hy
      · cases hx; cases hy; omega
      · split at hy
        · cases hx; cases hy; omega
        · cases hy
    · cases hx
theorem rowOf_lt {many : Nat} {ps : PS} (g : Good many ps) {i n : Nat} (h : n ∈ rowOf ps i) : n < many := by
  unfold rowOf at h
  obtain ⟨p, hp, e⟩ := List.mem_filterMap.mp h
  obtain ⟨h1, h2⟩ := g.lt p hp
  split at e
  · cases e; omega
  · split at e
    · cases e; omega
    · cases e
theorem sorted_row {many : Nat} {ps : PS} (g : Good many ps) {i : Nat} {ns : List Int} (hp : ns.Perm ((rowOf ps i).map fun n : Nat => (n : Int))) (hs : ns.Pairwise (· ≤ ·)) : ns = (rowOf ps i).map fun n : Nat => (n : Int) := by
  refine PySem.W.ksm_same hp hs ?_
  rw [List.pairwise_map]
  exact List.Pairwise.imp (fun h => by omega) (rowOf_sorted g i)
theorem adj_of {many : Nat} {ps : PS} (g : Good many ps) {a b : Nat} (h : (a, b) ∈ ps) : adj ps a b = true ∧ adj ps b a = true := by
  have h1 := (g.lt _ h).1
  refine ⟨decide_eq_true ?_, decide_eq_true ?_⟩
  · exact List.mem_filterMap.mpr ⟨(a, b), h, by simp⟩
  · have h1 : a < b := h1
    exact List.mem_filterMap.mpr ⟨(a, b), h, by have : ¬ a = b := by omega
                                                simp [this]⟩
theorem clash_of {many : Nat} {ps : PS} (g : Good many ps) {a b : Nat} (h : (a, b) ∈ ps) : clash ps a b = true := by
  have h1 : a < b := (g.lt _ h).1
  unfold clash
  rw [(adj_of g h).1]
  have : ¬ a = b := by omega
  simp [this]
/-! ### the slots, each the least that no lesser clashing place has -/
def lesser (ps : PS) (n : Nat) : List Nat := ((List.range n).filter fun l => clash ps l n).map fun l => (slotsUpto ps n).getD l 0
theorem slots_stay (ps : PS) {i : Nat} : ∀ {n m : Nat}, i < n → n ≤ m → (slotsUpto ps m)[i]? = (slotsUpto ps n)[i]?
  | n, 0, h, h2 => by omega
  | n, m + 1, h, h2 => by
    by_cases e : n = m + 1
    · rw [e]
    · show (slotsUpto ps m ++ _)[i]? = _
      rw [List.getElem?_append_left (by rw [slots_len]; omega)]
      exact slots_stay ps h (by omega)
theorem slots_at (ps : PS) {i m : Nat} (h : i < m) : (slotsUpto ps m)[i]? = some (least (lesser ps i)) := by
  rw [slots_stay ps (Nat.lt_succ_self i) h]
  show (slotsUpto ps i ++ [_])[i]? = _
  rw [List.getElem?_append_right (by rw [slots_len]; exact Nat.le_refl _), slots_len, Nat.sub_self]
  rfl
theorem slots_get (ps : PS) {i m : Nat} (h : i < m) : (slotsUpto ps m).getD i 0 = least (lesser ps i) := by
  rw [List.getD_eq_getElem?_getD, slots_at ps h]
  rfl
theorem lesser_eq (ps : PS) {i m : Nat} (h : i ≤ m) : lesser ps i = ((List.range i).filter fun l => clash ps l i).map fun l => (slotsUpto ps m).getD l 0 := by
  unfold lesser
  refine List.map_congr_left fun l hl => ?_
  have hl : l < i := List.mem_range.mp (List.mem_filter.mp hl).1
  rw [slots_get ps hl, slots_get ps (Nat.lt_of_lt_of_le hl h)]
/-- clashing places have unlike slots -/
theorem slots_apart (ps : PS) {a b m : Nat} (h : a < b) (hb : b < m) (hc : clash ps a b = true) : (slotsUpto ps m).getD a 0 ≠ (slotsUpto ps m).getD b 0 := by
  intro e
  rw [slots_get ps hb] at e
  refine least_not (lesser ps b) ?_
  rw [← e, lesser_eq ps (Nat.le_of_lt hb)]
  exact List.mem_map.mpr ⟨a, List.mem_filter.mpr ⟨List.mem_range.mpr h, hc⟩, rfl⟩
theorem slots_hold_ok {m : Nat} (ps : PS) : slotsHold m ps ((slotsUpto ps m).map fun n : Nat => (n : Int)) = true := by
  unfold slotsHold
  have gd : ∀ i, i < m → ((slotsUpto ps m).map fun n : Nat => (n : Int)).getD i 0 = (((slotsUpto ps m).getD i 0 : Nat) : Int) := by
    intro i hi
    rw [List.getD_eq_getElem?_getD, List.getD_eq_getElem?_getD, List.getElem?_map, slots_at ps hi]
    rfl
  have h1 : decide (((slotsUpto ps m).map fun n : Nat => (n : Int)).length = m) = true := decide_eq_true (by rw [List.length_map, slots_len])
  have h2 : (((slotsUpto ps m).map fun n : Nat => (n : Int)).any fun n => decide (n < 0)) = false := by
    rw [List.any_eq_false]
    intro x hx
    obtain ⟨n, _, rfl⟩ := List.mem_map.mp hx
    rw [decide_eq_false (by omega)]
    decide
  rw [h1, h2]
  show ((List.range m).all fun pl => _) = true
  rw [List.all_eq_true]
  intro pl hpl
  have hpl := List.mem_range.mp hpl
  rw [Bool.not_eq_true', List.any_eq_false]
  intro l hl
  have hl := List.mem_range.mp hl
  rw [gd l (by omega), gd pl hpl]
  intro hh
  rw [Bool.and_eq_true, decide_eq_true_eq] at hh
  exact slots_apart ps hl hpl hh.2 (by have := hh.1; omega)
theorem slots_hold_no {m : Nat} {ps : PS} {ns : List Int} {a b : Nat} (hab : a < b) (hb : b < m) (hc : clash ps a b = true) (e : ns.getD a 0 = ns.getD b 0) : slotsHold m ps ns = false := by
  unfold slotsHold
  have : ((List.range m).all fun pl => !((List.range pl).any fun l => decide (ns.getD l 0 = ns.getD pl 0) && clash ps l pl)) = false := by
    rw [List.all_eq_false]
    refine ⟨b, List.mem_range.mpr hb, ?_⟩
    rw [Bool.not_eq_true', Bool.not_eq_false]
    rw [List.any_eq_true]
    exact ⟨a, List.mem_range.mpr hab, by rw [hc, decide_eq_true e]; rfl⟩
  rw [this, Bool.and_false, Bool.and_false]
theorem given_vN (ps : PS) (i m : Nat) : given i (fun j => clash ps j i) (fun j => V.int (((slotsUpto ps m).getD j 0 : Nat) : Int)) = vN (((List.range i).filter fun l => clash ps l i).map fun l => (slotsUpto ps m).getD l 0) := by
  unfold given vN
  rw [List.map_map]
  rfl
theorem lesser_len (ps : PS) (n : Nat) : (lesser ps n).length ≤ n := by
  unfold lesser
  rw [List.length_map]
  have h := List.length_filter_le (fun l => clash ps l n) (List.range n)
  rw [List.length_range] at h
  exact h
end Wm
end
section
set_option Elab.async false
set_option linter.all false
set_option maxRecDepth 100000
set_option maxHeartbeats 4000000
namespace Wm
open PySem PySem.Spec PyProof.Rows L2 Lf
open Evl
theorem bag_lst {H : Hp} {b : Addr × Addr} (h : Bag H b) : ∃ xs, H b.1 = some (.lst xs) := let ⟨_, _, _, _, h1, _⟩ := h; ⟨_, h1⟩
theorem tup_ne {H : Hp} {b : Addr × Addr} {t : Addr} {xs : List V} (h : Bag H b) (ht : H t = some (.tup xs)) : t ≠ b.1 := let ⟨_, h1⟩ := bag_lst h; ne_of ht h1 (by intro z; cases z)
theorem PairsIn.step {H H' : Hp} {b : Addr × Addr} {ws : List V} {ps : PS} (h : PairsIn H ws ps) (hb : Bag H b) (s : Step b H H') : PairsIn H' ws ps := ⟨h.1, fun i p hp => let ⟨t, h1, h2⟩ := h.2 i p hp; ⟨t, h1, s.at (tup_ne hb h2) h2⟩⟩
theorem PairsIn.mask {H : Hp} {b : Addr × Addr} {ws : List V} {ps : PS} (h : PairsIn H ws ps) (hb : Bag H b) : PairsIn (mask b.1 H) ws ps := ⟨h.1, fun i p hp => let ⟨t, h1, h2⟩ := h.2 i p hp; ⟨t, h1, by rw [mask_at (tup_ne hb h2)]; exact h2⟩⟩
theorem seldom_at {way : Int} (h0 : 0 ≤ way) (h1 : way < 6) : ∃ sd : Int, atI [V.int 9, V.int 9, V.int 3, V.int 5, V.int 9, V.int 2] way = some (.int sd) ∧ 2 ≤ sd ∧ sd ≤ 9 := by
  obtain ⟨n, rfl⟩ := Int.eq_ofNat_of_zero_le h0
  have hn : n < 6 := by omega
  match n, hn with
  | 0, _ => exact ⟨9, rfl, by decide, by decide⟩
  | 1, _ => exact ⟨9, rfl, by decide, by decide⟩
  | 2, _ => exact ⟨3, rfl, by decide, by decide⟩
  | 3, _ => exact ⟨5, rfl, by decide, by decide⟩
  | 4, _ => exact ⟨9, rfl, by decide, by decide⟩
  | 5, _ => exact ⟨2, rfl, by decide, by decide⟩
theorem tany_take {b : Addr × Addr} {σ : L2.St} {H : Hp} {many : Int} {i j : Nat} (hb : Bag H b) (hi : σ[i]? = some (some (.ref b.1))) (hj : σ[j]? = some (some (.int many))) (hm : 0 < many ∧ many < 1073741824) :
    TAny (Step b) (tTest (tOp rEq (tCl spTake E0 (tCons (tVar i) (tCons (tVar j) tNil))) (tC (.int 0)))) σ H := fun Q q =>
  ⟨_, hi, _, hj, b, many, rfl, hb, hm, fun v H' _ _ bg s => ⟨rfl, _, rfl, q _ _ (.draw bg s)⟩⟩
theorem RowsIn.mask {H0 H : Hp} {b : Addr} {ws : List V} {rows : List (List Nat)} (h : RowsIn H ws rows) (hb : H0 b ≠ none) (hf : ∀ (i : Nat) (t : Addr), ws[i]? = some (.ref t) → H0 t = none) : RowsIn (mask b H) ws rows := ⟨h.1, fun i row hr => by
  obtain ⟨t, h1, h2⟩ := h.2.1 i row hr
  refine ⟨t, h1, ?_⟩
  have : t ≠ b := fun e => hb (e ▸ hf i t h1)
  rw [mask_at this]
  exact h2, h.2.2⟩
theorem WebNew.mask {K : PySem.W.Frag} {C : Addr} {H0 H : Hp} {x : Addr} {m : Nat} {ps : PS} {b : Addr × Addr} (h : WebNew C H0 H x m ps) (hb0 : Bag H0 b) (hb : Bag H b) : WebAt K C (mask b.1 H) x m ps := by
  obtain ⟨g, dx, a1, a2, ws1, ws2, h1, h2, h3, h4, h5, f0, f1, f2, fr⟩ := h
  have nb : H0 b.1 ≠ none := by
    obtain ⟨xs, q⟩ := bag_lst hb0
    rw [q]
    exact fun z => nomatch z
  have ne : ∀ {a : Addr}, H0 a = none → a ≠ b.1 := fun h e => nb (e ▸ h)
  exact ⟨g, dx, a1, a2, by rw [mask_at (ne f0)]; exact h1, (h4.mask hb).dp (sq_of (by rw [mask_at (ne f1)]; exact h2)), .lst (sq_of (by rw [mask_at (ne f2)]; exact h3)) (h5.mask nb fr).dps⟩
theorem RowsIn.snoc {H : Hp} {ws : List V} {rows : List (List Nat)} {t : Addr} {row : List Nat} (h : RowsIn H ws rows) (ht : H t = some (.lst (vN row))) (hf : ∀ j : Nat, ws[j]? ≠ some (.ref t)) : RowsIn H (ws ++ [.ref t]) (rows ++ [row]) := by
  have hl := h.1
  refine ⟨by rw [List.length_append, List.length_append, hl] <;> rfl, fun i r hr => ?_, fun i j u h1 h2 => ?_⟩
  · by_cases hi : i < rows.length
    · rw [List.getElem?_append_left hi] at hr
      obtain ⟨u, h1, h2⟩ := h.2.1 i r hr
      exact ⟨u, by rw [List.getElem?_append_left (by omega)]; exact h1, h2⟩
    · rw [List.getElem?_append_right (by omega)] at hr
      have e0 : i - rows.length = 0 := by
        have := (List.getElem?_eq_some_iff.mp hr).1
        simp at this
        omega
      rw [e0] at hr
      cases hr
      refine ⟨t, ?_, ht⟩
      rw [List.getElem?_append_right (by omega), hl, e0]
      rfl
  · have old : ∀ (k : Nat), (ws ++ [V.ref t])[k]? = some (.ref u) → (ws[k]? = some (.ref u)) ∨ (k = ws.length ∧ u = t) := by
      intro k hk
      by_cases q : k < ws.length
      · rw [List.getElem?_append_left q] at hk
        exact .inl hk
      · rw [List.getElem?_append_right (by omega)] at hk
        have q2 := (List.getElem?_eq_some_iff.mp hk).1
        have e0 : k = ws.length := by simp at q2; omega
        subst e0
        rw [Nat.sub_self] at hk
        cases hk
        exact .inr ⟨rfl, rfl⟩
    rcases old i h1 with a | ⟨a, a2⟩ <;> rcases old j h2 with c | ⟨c, c2⟩
    · exact h.2.2 i j u a c
    · rw [c2] at a
      exact absurd a (hf i)
    · rw [a2] at c
      exact absurd c (hf j)
    · omega
theorem RowsIn.updD {H : Hp} {ws : List V} {rows : List (List Nat)} {D : Addr} {o : HO} (h : RowsIn H ws rows) (hf : ∀ j : Nat, ws[j]? ≠ some (.ref D)) : RowsIn (L2.upd H D o) ws rows := ⟨h.1, fun i r hr => by
  obtain ⟨u, h1, h2⟩ := h.2.1 i r hr
  have nu : u ≠ D := fun e => hf i (e ▸ h1)
  exact ⟨u, h1, by rw [upd_ne nu]; exact h2⟩, h.2.2⟩
theorem RowsIn.notnew {H : Hp} {ws : List V} {rows : List (List Nat)} {t : Addr} (h : RowsIn H ws rows) (ht : H t = none) : ∀ j : Nat, ws[j]? ≠ some (.ref t) := fun j hj => by
  have hl := (List.getElem?_eq_some_iff.mp hj).1
  have hl2 : j < rows.length := by rw [← h.1]; exact hl
  obtain ⟨u, h1, h2⟩ := h.2.1 j _ (List.getElem?_eq_getElem hl2)
  rw [hj] at h1
  cases h1
  rw [ht] at h2
  cases h2
end Wm
end
section
set_option Elab.async false
set_option linter.all false
set_option maxRecDepth 100000
set_option maxHeartbeats 4000000
namespace Wm
open PySem PySem.Spec PyProof.Rows L2 Lf
open Evl
/-! data that is short enough to be written out -/
structure Rep (n w : Nat) (d : PyData) : Prop where
  sh : Sh n d
  wt : PyData.weight d ≤ w
  sm : PyData.leavesShort 13 d = true
  ok : PyData.showable d = true
theorem weightAll_le {w : Nat} : ∀ {ds : List PyData}, (∀ d ∈ ds, PyData.weight d ≤ w) → PyData.weightAll ds ≤ ds.length * (w + 1)
  | [], _ => Nat.zero_le _
  | d :: ds, h => by
    have h1 := h d List.mem_cons_self
    have h2 := weightAll_le (ds := ds) fun x hx => h x (List.mem_cons_of_mem _ hx)
    rw [PyData.weightAll, List.length_cons, Nat.succ_mul]
    omega
theorem smAll : ∀ {ds : List PyData}, (∀ d ∈ ds, PyData.leavesShort 13 d = true) → PyData.leavesShortAll 13 ds = true
  | [], _ => rfl
  | d :: ds, h => by
    rw [PyData.leavesShortAll, h d List.mem_cons_self, smAll (ds := ds) fun x hx => h x (List.mem_cons_of_mem _ hx)]
    rfl
theorem okAll : ∀ {ds : List PyData}, (∀ d ∈ ds, PyData.showable d = true) → PyData.showableAll ds = true
  | [], _ => rfl
  | d :: ds, h => by
    rw [PyData.showableAll, h d List.mem_cons_self, okAll (ds := ds) fun x hx => h x (List.mem_cons_of_mem _ hx)]
    rfl
theorem Rep.mono {m n v w : Nat} {d : PyData} (h : Rep m v d) (e : m ≤ n) (e2 : v ≤ w) : Rep n w d := ⟨h.sh.mono e, Nat.le_trans h.wt e2, h.sm, h.ok⟩
theorem log_lt {k j : Nat} (h : k < 2 ^ (j + 1)) : k.log2 < j + 1 := by
  by_cases q : k = 0
  · rw [q]
    exact Nat.succ_pos _
  · exact (Nat.log2_lt q).mpr h
theorem Rep.int {i : Int} (h : i.natAbs < 10 ^ 12) : Rep 0 40 (.int i) := by
  have h1 : i.natAbs.log2 < 39 + 1 := log_lt (Nat.lt_of_lt_of_le h (by decide))
  refine ⟨Sh.int i, ?_, ?_, ?_⟩
  · rw [PyData.weight]
    split <;> omega
  · rw [PyData.leavesShort]
    exact decide_eq_true (PyData.shown_int_le h)
  · rw [PyData.showable]
    exact decide_eq_true (by omega)
theorem Rep.bl (b : Bool) : Rep 0 0 (.bool b) := ⟨Sh.bl b, Nat.le_refl _, rfl, rfl⟩
theorem Rep.non : Rep 0 0 .none := ⟨Sh.non, Nat.le_refl _, rfl, rfl⟩
theorem Rep.list {n w : Nat} {ds : List PyData} (h : ∀ d ∈ ds, Rep n w d) : Rep (n + 1) (ds.length * (w + 1)) (.list ds) := ⟨Sh.list fun d hd => (h d hd).sh, by
  rw [PyData.weight]
  exact weightAll_le fun d hd => (h d hd).wt, by
  rw [PyData.leavesShort]
  exact smAll fun d hd => (h d hd).sm, by
  rw [PyData.showable]
  exact okAll fun d hd => (h d hd).ok⟩
theorem Rep.tup {n w : Nat} {ds : List PyData} (h : ∀ d ∈ ds, Rep n w d) : Rep (n + 1) (ds.length * (w + 1)) (.tuple ds) := ⟨Sh.tup fun d hd => (h d hd).sh, by
  rw [PyData.weight]
  exact weightAll_le fun d hd => (h d hd).wt, by
  rw [PyData.leavesShort]
  exact smAll fun d hd => (h d hd).sm, by
  rw [PyData.showable]
  exact okAll fun d hd => (h d hd).ok⟩
theorem Rep.size {n : Nat} {d : PyData} (h : Rep n 1000000 d) : d.shown.length ≤ sizeLine := PyData.shown_fits (B := 13) (by decide) (by decide) h.sm (Nat.le_trans h.wt (by decide))
theorem Rep.eqv {n w : Nat} {d : PyData} (h : Rep n w d) : PyData.eqv d d = true := SeqAt.eqv_refl d h.sh.can
theorem rep_dN {ns : List Nat} (h : ∀ n ∈ ns, n < 1000) : Rep 1 (ns.length * 41) (dN ns) := by
  have := Rep.list (n := 0) (w := 40) (ds := ns.map fun n : Nat => PyData.int (n : Int)) (fun d hd => by
    obtain ⟨n, hn, rfl⟩ := List.mem_map.mp hd
    have := h n hn
    exact Rep.int (by show n < _; omega))
  rw [List.length_map] at this
  exact this
theorem rep_dP {p : Nat × Nat} (h1 : p.1 < 1000) (h2 : p.2 < 1000) : Rep 1 82 (dP p) := Rep.tup (n := 0) (w := 40) (ds := [.int (p.1 : Int), .int (p.2 : Int)]) (fun d hd => by
  rcases List.mem_cons.mp hd with rfl | hd
  · exact Rep.int (by show p.1 < _; omega)
  · rw [List.mem_singleton.mp hd]
    exact Rep.int (by show p.2 < _; omega))
theorem rep_dPs {m : Nat} {ps : PS} (g : Good m ps) : Rep 2 100000 (dPs ps) := by
  have m10 := g.m10
  have few := g.few
  have := Rep.list (n := 1) (w := 82) (ds := ps.map dP) (fun d hd => by
    obtain ⟨p, hp, rfl⟩ := List.mem_map.mp hd
    have := g.lt p hp
    exact rep_dP (by omega) (by omega))
  rw [List.length_map] at this
  exact this.mono (Nat.le_refl _) (by omega)
theorem rep_row {m : Nat} {ps : PS} (g : Good m ps) (i : Nat) : Rep 1 100000 (dN (rowOf ps i)) := by
  have few : (rowOf ps i).length ≤ 1000 := Nat.le_trans (List.length_filterMap_le ..) g.few
  have m10 := g.m10
  exact (rep_dN fun n hn => by have := rowOf_lt g hn; omega).mono (Nat.le_refl _) (by omega)
theorem rep_slots {m : Nat} (ps : PS) (h : m ≤ 10) : Rep 1 100000 (dN (slotsUpto ps m)) := by
  have e := slots_len ps m
  refine (rep_dN fun n hn => ?_).mono (Nat.le_refl _) (by omega)
  obtain ⟨i, hi, rfl⟩ := List.mem_iff_getElem.mp hn
  have him : i < m := by omega
  have h1 := slots_at ps him
  rw [List.getElem?_eq_getElem hi] at h1
  have h0 := Option.some.inj h1
  have h2 := least_le (lesser ps i)
  have h3 := lesser_len ps i
  omega
/-! alike: equal, and written alike -/
def spAlike (K : PySem.W.Frag) : Sp := fun vs H Q _ => ∃ u v d, vs = [u, v] ∧ Dp K H u d ∧ Dp K H v d ∧ Rep 60 1000000 d ∧ RetV (.bl true) H Q
section
variable {K : PySem.W.Frag} {σ : L2.St} {H : Hp} {te : TE} {xs : List V} {D : Ends}
theorem ev_repr {u : V} {d : PyData} (h : Ev te σ H u) (hd : Dp K H u d) (r : Rep 60 1000000 d) : Ev (tCB (rRepr K) (tCons te tNil)) σ H (.str d.shown) := ev_cb (ea_cons h ea_nil) fun H2 e2 Q q => ⟨u, d, rfl, dp_ex e2 _ _ hd, r.ok, PyData.hasDict_of_canLay d r.sh.can, r.sh.dep, r.size, q H2 (Ex.refl _)⟩
theorem rv_eqD {u v : V} {d : PyData} {n w : Nat} (hu : Dp K H u d) (hv : Dp K H v d) (r : Rep n w d) (hn : n ≤ 64) : RV (rEqD K) u v H (.bl true) := rv_val fun H2 e2 Q k => ⟨d, d, dp_ex e2 _ _ hu, dp_ex e2 _ _ hv, r.sh.shaped hn, r.sh.shaped hn, by rw [r.eqv]; exact k⟩
theorem rv_neD {u v : V} {d : PyData} {n w : Nat} (hu : Dp K H u d) (hv : Dp K H v d) (r : Rep n w d) (hn : n ≤ 64) : RV (rNeD K) u v H (.bl false) := rv_val fun H2 e2 Q k => ⟨d, d, dp_ex e2 _ _ hu, dp_ex e2 _ _ hv, r.sh.shaped hn, r.sh.shaped hn, by rw [r.eqv]; exact k⟩
end
section
variable {σ : L2.St} {H : Hp} {te tu : TE} {xs ys : List V} {v : V} {D : Ends}
theorem s_retLL (h : EvL te σ H xs) (h2 : EvL tu σ H ys) (k : ∀ l l2 p H1, H l = none → H l2 = none → H p = none → Ex H H1 → H1 l = some (.lst xs) → H1 l2 = some (.lst ys) → H1 p = some (.tup [.ref l, .ref l2]) → D.rt (.ref p) H1) : tRet (tTup (tCons te (tCons tu tNil))) D σ H :=
  h H (Ex.refl H) _ fun l H1 l0 e1 hl => h2 H1 e1 _ fun l2 H2 l20 e2 hl2 => ⟨by show 2 ≤ sizeLine; decide, fun p hp => k l l2 p _ l0 (fresh_back e1 l20) (fresh_back (e1.trans e2) hp) ((e1.trans e2).trans (Ex.new hp)) (Ex.new hp _ _ (e2 _ _ hl)) (Ex.new hp _ _ hl2) upd_same⟩
theorem s_retLV (h : EvL te σ H xs) (h2 : Ev tu σ H v) (k : ∀ l p H1, H l = none → H p = none → Ex H H1 → H1 l = some (.lst xs) → H1 p = some (.tup [.ref l, v]) → D.rt (.ref p) H1) : tRet (tTup (tCons te (tCons tu tNil))) D σ H :=
  h H (Ex.refl H) _ fun l H1 l0 e1 hl => h2 H1 e1 _ fun H2 e2 => ⟨by show 2 ≤ sizeLine; decide, fun p hp => k l p _ l0 (fresh_back (e1.trans e2) hp) ((e1.trans e2).trans (Ex.new hp)) (Ex.new hp _ _ (e2 _ _ hl)) upd_same⟩
end
/-! two lists hidden: the bag and one more -/
def M2 (b : Addr × Addr) (q : Addr) (H : Hp) : Hp := mask q (mask b.1 H)
theorem M2.le (b : Addr × Addr) (q : Addr) (H : Hp) : Ex (M2 b q H) (mask b.1 H) := mask_le _ _
theorem M2.step {b : Addr × Addr} {q : Addr} {H H' : Hp} (s : Step b H H') : Ex (M2 b q H) (M2 b q H') := mask_ex s.2
theorem M2.put {b : Addr × Addr} {q : Addr} {H : Hp} {o : HO} : M2 b q (L2.upd H q o) = M2 b q H := by
  funext a
  unfold M2
  by_cases e : a = q
  · rw [e, mask_self, mask_self]
  · rw [mask_at e, mask_at e]
    by_cases e2 : a = b.1
    · rw [e2, mask_self, mask_self]
    · rw [mask_at e2, mask_at e2, upd_ne e]
theorem M2.at {b : Addr × Addr} {q a : Addr} {H : Hp} (h1 : a ≠ b.1) (h2 : a ≠ q) : M2 b q H a = H a := (mask_at h2).trans (mask_at h1)
theorem PairsIn.mask1 {H : Hp} {p : Addr} {us ws : List V} {ps : PS} (h : PairsIn H ws ps) (hp : H p = some (.lst us)) : PairsIn (Lf.mask p H) ws ps := ⟨h.1, fun i x hx => let ⟨t, h1, h2⟩ := h.2 i x hx; ⟨t, h1, by rw [mask_at (ne_of h2 hp (by intro z; cases z))]; exact h2⟩⟩
theorem WebNew.mask1 {C : Addr} {H0 H : Hp} {x : Addr} {m : Nat} {ps : PS} {p : Addr} {us : List V} (h : WebNew C H0 H x m ps) (hp0 : H0 p ≠ none) (hp : H p = some (.lst us)) : WebNew C H0 (Lf.mask p H) x m ps := by
  obtain ⟨g, dx, a1, a2, ws1, ws2, h1, h2, h3, h4, h5, f0, f1, f2, fr⟩ := h
  have ne : ∀ {a : Addr}, H0 a = none → a ≠ p := fun h e => hp0 (e ▸ h)
  exact ⟨g, dx, a1, a2, ws1, ws2, by rw [mask_at (ne f0)]; exact h1, by rw [mask_at (ne f1)]; exact h2, by rw [mask_at (ne f2)]; exact h3, h4.mask1 hp, h5.mask hp0 fr, f0, f1, f2, fr⟩
theorem bag_none {H : Hp} {b : Addr × Addr} (h : Bag H b) : H b.1 ≠ none := by
  obtain ⟨xs, q⟩ := bag_lst h
  rw [q]
  exact fun z => nomatch z
theorem M2.web {K : PySem.W.Frag} {C : Addr} {H0 H : Hp} {x q : Addr} {m : Nat} {ps : PS} {b : Addr × Addr} {us : List V} (h : WebNew C H0 H x m ps) (hb0 : Bag H0 b) (hb : Bag H b) (hq0 : H0 q ≠ none) (hq : H q = some (.lst us)) (nq : q ≠ b.1) : WebAt K C (M2 b q H) x m ps := by
  obtain ⟨xs, q1⟩ := bag_lst hb
  exact ((h.mask1 (bag_none hb0) q1).mask1 hq0 (us := us) (by rw [mask_at nq]; exact hq)).at
theorem M2.pairs {K : PySem.W.Frag} {H : Hp} {q a : Addr} {ws us : List V} {ps : PS} {b : Addr × Addr} (h : PairsIn H ws ps) (hb : Bag H b) (hq : H q = some (.lst us)) (nq : q ≠ b.1) (ha : H a = some (.lst ws)) (n1 : a ≠ b.1) (n2 : a ≠ q) : Dp K (M2 b q H) (.ref a) (dPs ps) := by
  obtain ⟨xs, q1⟩ := bag_lst hb
  exact ((h.mask1 q1).mask1 (us := us) (by rw [mask_at nq]; exact hq)).dp (sq_of ((M2.at n1 n2).trans ha))
theorem M2.rows {K : PySem.W.Frag} {H0 H : Hp} {q a : Addr} {ws : List V} {rows : List (List Nat)} {b : Addr × Addr} (h : RowsIn H ws rows) (hf : ∀ (i : Nat) (t : Addr), ws[i]? = some (.ref t) → H0 t = none) (hb : H0 b.1 ≠ none) (hq : H0 q ≠ none) (ha : H a = some (.lst ws)) (n1 : a ≠ b.1) (n2 : a ≠ q) : Dp K (M2 b q H) (.ref a) (dNs rows) :=
  .lst (sq_of ((M2.at n1 n2).trans ha)) ((h.mask hb hf).mask hq hf).dps
theorem Bag_upd {H : Hp} {b : Addr × Addr} {q : Addr} {o : HO} (h : Bag H b) (n1 : q ≠ b.1) (n2 : q ≠ b.2) : Bag (L2.upd H q o) b := by
  obtain ⟨x, y, z, ns, h1, h2, r⟩ := h
  exact ⟨x, y, z, ns, by rw [upd_ne n1.symm]; exact h1, by rw [upd_ne n2.symm]; exact h2, r⟩
theorem WebNew.ex {C : Addr} {H0 H H' : Hp} {x : Addr} {m : Nat} {ps : PS} (h : WebNew C H0 H x m ps) (e : Ex H H') : WebNew C H0 H' x m ps := by
  obtain ⟨g, dx, a1, a2, ws1, ws2, h1, h2, h3, h4, h5, f0, f1, f2, fr⟩ := h
  exact ⟨g, dx, a1, a2, ws1, ws2, e _ _ h1, e _ _ h2, e _ _ h3, h4.ex e, h5.ex e, f0, f1, f2, fr⟩
theorem WebNew.put {C : Addr} {H0 H : Hp} {x : Addr} {m : Nat} {ps : PS} {p : Addr} {us vs : List V} (h : WebNew C H0 H x m ps) (hp0 : H0 p ≠ none) (hp : H p = some (.lst us)) : WebNew C H0 (L2.upd H p (.lst vs)) x m ps := by
  obtain ⟨g, dx, a1, a2, ws1, ws2, h1, h2, h3, h4, h5, f0, f1, f2, fr⟩ := h
  have ne : ∀ {a : Addr}, H0 a = none → a ≠ p := fun h e => hp0 (e ▸ h)
  exact ⟨g, dx, a1, a2, ws1, ws2, by rw [upd_ne (ne f0)]; exact h1, by rw [upd_ne (ne f1)]; exact h2, by rw [upd_ne (ne f2)]; exact h3, h4.upd hp, h5.updD fun j hj => ne (fr j p hj) rfl, f0, f1, f2, fr⟩
theorem first_free {m : Nat} {b : List Nat} (h : least b < m) : ((List.range m).filter fun n => !decide (n ∈ b))[0]? = some (least b) := by
  rw [← List.head?_eq_getElem?, List.head?_filter, List.find?_range_eq_some]
  refine ⟨by rw [decide_eq_false (least_not b)]; rfl, List.mem_range.mpr h, fun j hj => ?_⟩
  rw [decide_eq_true (least_in b j hj)]
  rfl
end Wm
end
section
set_option Elab.async false
set_option linter.all false
set_option maxRecDepth 100000
set_option maxHeartbeats 4000000
/-! Ln: plain kinds: what number_of and its like make of a value. -/
namespace Lf
open PySem PySem.Spec PyProof.Rows L2
open Evl
def optV : Option Int → V
  | none => .non
  | some i => .int i
/-- what number_of makes of a value -/
def Whole (K : PySem.W.Frag) (H : Hp) (v : V) (o : Option Int) : Prop := ∃ t b1 b2, TyX K H v t ∧ PySem.W.kitOne K t (.type "int") = some b1 ∧ PySem.W.kitOne K t (.type "bool") = some b2 ∧
  ((b1 = true ∧ b2 = false ∧ ∃ i, v = .int i ∧ o = some i) ∨ (b1 = false ∧ o = none) ∨ (b1 = true ∧ b2 = true ∧ o = none))
theorem Whole.int (K : PySem.W.Frag) (H : Hp) (i : Int) : Whole K H (.int i) (some i) := ⟨_, true, false, .base (.int i), kit_ty (by decide +kernel), kit_ty (by decide +kernel), .inl ⟨rfl, rfl, i, rfl, rfl⟩⟩
theorem Whole.non (K : PySem.W.Frag) (H : Hp) : Whole K H .non none := ⟨_, false, false, .base .non, kit_ty (by decide +kernel), kit_ty (by decide +kernel), .inr (.inl ⟨rfl, rfl⟩)⟩
theorem Whole.bl (K : PySem.W.Frag) (H : Hp) (b : Bool) : Whole K H (.bl b) none := ⟨_, true, true, .base (.bl b), kit_ty (by decide +kernel), kit_ty (by decide +kernel), .inr (.inr ⟨rfl, rfl, rfl⟩)⟩
theorem Whole.str (K : PySem.W.Frag) (H : Hp) (x : Str) : Whole K H (.str x) none := ⟨_, false, false, .base (.str x), kit_ty (by decide +kernel), kit_ty (by decide +kernel), .inr (.inl ⟨rfl, rfl⟩)⟩
theorem Whole.lst {K : PySem.W.Frag} {H : Hp} {a : Addr} {xs : List V} (h : SqL K H a xs) : Whole K H (.ref a) none := ⟨_, false, false, ty_of_l h, kit_ty (by decide +kernel), kit_ty (by decide +kernel), .inr (.inl ⟨rfl, rfl⟩)⟩
theorem Whole.tup {K : PySem.W.Frag} {H : Hp} {a : Addr} {xs : List V} (h : SqT K H a xs) : Whole K H (.ref a) none := ⟨_, false, false, ty_of_t h, kit_ty (by decide +kernel), kit_ty (by decide +kernel), .inr (.inl ⟨rfl, rfl⟩)⟩
def spNumber (K : PySem.W.Frag) : Sp := fun vs H Q _ => ∃ v o, vs = [v] ∧ Whole K H v o ∧ RetV (optV o) H Q
def inB (o : Option Int) (lo hi : Int) : Bool := match o with
  | none => false
  | some i => decide (lo ≤ i) && decide (i ≤ hi)
def spWithin (K : PySem.W.Frag) : Sp := fun vs H Q _ => ∃ v o lo hi, vs = [v, .int lo, .int hi] ∧ Whole K H v o ∧ RetV (.bl (inB o lo hi)) H Q
/-- isinstance of one built-in class -/
def Isi (K : PySem.W.Frag) (H : Hp) (v : V) (c : String) (b : Bool) : Prop := ∃ t, TyX K H v t ∧ PySem.W.kitOne K t (.type c) = some b
def RetU (xs : List V) (H : Hp) (Q : VK) : Prop := ∀ p H2, H p = none → Ex H H2 → H2 p = some (.tup xs) → Q (.ref p) H2
def SU (sp : Sp) (vs : List V) (H : Hp) (xs : List V) : Prop := ∀ H1, Ex H H1 → ∀ Q : VK, RetU xs H1 Q → ∀ E : XK, sp vs H1 Q E
section
variable {K : PySem.W.Frag} {σ : L2.St} {H H' : Hp} {ta tb te tx : TE} {t u : TT} {x y z v : V} {r : R2} {D : Ends} {tz : TS}
theorem sv_number (K : PySem.W.Frag) (H : Hp) (i : Int) : SV (spNumber K) [.int i] H (.int i) := fun H1 e Q q E => ⟨_, some i, rfl, .int K H1 i, q⟩
theorem sv_within (K : PySem.W.Frag) (H : Hp) (i lo hi : Int) : SV (spWithin K) [.int i, .int lo, .int hi] H (.bl (inB (some i) lo hi)) := fun H1 e Q q E => ⟨_, some i, lo, hi, rfl, .int K H1 i, q⟩
theorem eu_cl {sp : Sp} {vs xs : List V} {E : XK} {ta : TA} (h : EvA ta σ H vs) (hs : SU sp vs H xs) : EvU (tCl sp E ta) σ H xs := fun H1 e Q q =>
  h H1 e _ fun H2 e2 => hs H2 (e.trans e2) Q (fun p H3 hp e3 h3 => q p H3 (fresh_back e2 hp) (e2.trans e3) h3) E
theorem q_par {i j : Nat} {ta : TA} (h : EvA ta σ H [x, y]) (k : ∀ H1, Ex H H1 → tz D ((σ.set i (some x)).set j (some y)) H1) : tSeq (tPar i j ta) tz D σ H := h H (Ex.refl H) _ fun H1 e => ⟨x, y, rfl, k H1 e⟩
theorem s_par {i j : Nat} {ta : TA} (h : EvA ta σ H [x, y]) (k : ∀ H1, Ex H H1 → D.nx ((σ.set i (some x)).set j (some y)) H1) : tPar i j ta D σ H := h H (Ex.refl H) _ fun H1 e => ⟨x, y, rfl, k H1 e⟩
theorem q_asgG1 {g : TG} (h : Ev te σ H v) (k : ∀ H1, Ex H H1 → g v σ H1 (tz D)) : tSeq (tAsg te g) tz D σ H := h H (Ex.refl H) _ k
open Wm in
theorem rv_eqD2 {u v : V} {d d' : PyData} {n m : Nat} (hu : Dp K H u d) (hv : Dp K H v d') (s : Sh n d) (s' : Sh m d') (hn : n ≤ 64) (hm : m ≤ 64) : RV (rEqD K) u v H (.bl (PyData.eqv d d')) := rv_val fun H2 e2 Q k => ⟨d, d', dp_ex e2 _ _ hu, dp_ex e2 _ _ hv, s.shaped hn, s'.shaped hm, k⟩
open Wm in
theorem rv_neD2 {u v : V} {d d' : PyData} {n m : Nat} (hu : Dp K H u d) (hv : Dp K H v d') (s : Sh n d) (s' : Sh m d') (hn : n ≤ 64) (hm : m ≤ 64) : RV (rNeD K) u v H (.bl (!PyData.eqv d d')) := rv_val fun H2 e2 Q k => ⟨d, d', dp_ex e2 _ _ hu, dp_ex e2 _ _ hv, s.shaped hn, s'.shaped hm, k⟩
/-- the first operand a new tuple -/
theorem ev_opU1 {xs : List V} (ha : EvU ta σ H xs) (hb : ∀ H1, Ex H H1 → Ev tb σ H1 y) (hr : ∀ p H1, H1 p = some (.tup xs) → Ex H H1 → RV r (.ref p) y H1 z) : Ev (tOp r ta tb) σ H z := fun H1 e Q q =>
  ha H1 e _ fun p H2 _ e2 hp => hb H2 (e.trans e2) H2 (Ex.refl H2) _ fun H3 e3 => hr p H3 (e3 p _ hp) ((e.trans e2).trans e3) H3 (Ex.refl H3) Q fun H4 e4 => q H4 ((e2.trans e3).trans e4)
end
open Wm in
theorem sh_ints (ns : List Int) : Sh 1 (.tuple (ns.map PyData.int)) := Sh.tup (n := 0) fun d hd => by
  obtain ⟨i, _, rfl⟩ := List.mem_map.mp hd
  exact Sh.int i
open Wm in
theorem eqv_sh {n : Nat} {d : PyData} (h : Sh n d) : PyData.eqv d d = true := SeqAt.eqv_refl d h.can
theorem getD_int {ns : List Int} {i : Nat} (h : i < ns.length) : (ns.map V.int)[i]? = some (.int (ns.getD i 0)) := by
  rw [List.getElem?_map, List.getD_eq_getElem?_getD, List.getElem?_eq_getElem h]
  rfl
/-- ints in a tuple, as data -/
theorem dp_ints {K : PySem.W.Frag} {H : Hp} {p : Addr} {ns : List Int} (h : H p = some (.tup (ns.map V.int))) : Dp K H (.ref p) (.tuple (ns.map PyData.int)) := .tup (st_of h) Dps.ints
end Lf
end
section
set_option Elab.async false
set_option linter.all false
set_option maxRecDepth 100000
set_option maxHeartbeats 4000000
/-! Lx: sorted, min, max of data of any depth, by values. -/
namespace Lf
open PySem PySem.Spec PyProof.Rows L2
open Evl
section
variable {X : Cx}
/-- sorted(xs), the items data: bs the items with their data -/
def rSortD (K : PySem.W.Frag) : List V → Hp → VK → Prop := fun vs H Q => ∃ (a : Addr) (bs : List (V × PyData)), vs = [V.ref a] ∧ SqL K H a (bs.map (·.1)) ∧ (∀ b ∈ bs, Dp K H b.1 b.2) ∧ PySem.W.AllAlike (bs.map (·.2)) ∧ PySem.W.Sortable (bs.map (·.2)) ∧ (∀ b ∈ bs, b.2.depth ≤ 60) ∧
  ∀ p, H p = none → Q (.ref p) (upd H p (.lst ((bs.mergeSort (PySem.W.dataLe false (·.2))).map (·.1))))
theorem each_vals {bs : List (V × PyData)} : ∀ {us : List Value}, Vals (bs.map (·.1)) us → PySem.W.EachIs (fun u (b : V × PyData) => RelV b.1 u) us bs := by
  induction bs with
  | nil => intro us r; cases r; exact .nil
  | cons b bs ih => intro us r; cases r with | cons h t => exact .cons h (ih t)
theorem vals_each {bs : List (V × PyData)} : ∀ {us : List Value}, PySem.W.EachIs (fun u (b : V × PyData) => RelV b.1 u) us bs → Vals (bs.map (·.1)) us := by
  induction bs with
  | nil => intro us r; cases r; exact .nil
  | cons b bs ih => intro us r; cases r with | cons h t => exact .cons h (ih t)
theorem each_both {α β : Type} {R S : α → β → Prop} {as : List α} {bs : List β} (h : PySem.W.EachIs R as bs) (k : ∀ a b, b ∈ bs → R a b → S a b) : PySem.W.EachIs S as bs := by
  induction h with
  | nil => exact .nil
  | cons h1 h2 ih => exact .cons (k _ _ List.mem_cons_self h1) (ih fun a b hb hr => k a b (List.mem_cons_of_mem _ hb) hr)
theorem cr_sortD (hu : X.A.units + 65 < cLine) : CallR X (.builtin "sorted") (rSortD X.K) := by
  intro pins s σ H vs us Q I r h
  obtain ⟨a, bs, rfl, hs, hd, hal, hk, hdep, q⟩ := h
  obtain ⟨its, rv, hl, hz⟩ := I.list hs
  rw [Vals.ref1 r]
  have e := each_vals rv
  refine PySem.W.sorted_data (enc := fun b : V × PyData => b.2) hl.isList e (each_both e fun u b hb hr => Dp.reads I _ _ _ (hd b hb) hr) hal hk (by rw [List.length_map] at hz; exact hz) (fun b hb => by have := hdep b hb; omega) fun out ho eo => ?_
  obtain ⟨ep, he'⟩ := PyProof.Rows.sortedAll_at s.heap its out.toArray
  have hlen : ((bs.mergeSort (PySem.W.dataLe false (·.2))).map (·.1)).length ≤ sizeLine := by
    rw [List.length_map, List.length_mergeSort]
    rw [List.length_map] at hz
    exact hz
  exact ⟨.ref _, upd H (s.heap.objs.size + 1) (.lst ((bs.mergeSort (PySem.W.dataLe false (·.2))).map (·.1))), I.laid (t' := s.toks) (fun _ _ => PyProof.Rows.sortedAll_old) (Nat.le_succ _) ⟨hlen, out, ep, vals_each eo, he'⟩, rfl, q _ (I.hok.fresh (Nat.le_succ _))⟩
/-- min(xs), max(xs), the items data -/
def rMinD (K : PySem.W.Frag) : List V → Hp → VK → Prop := fun vs H Q => ∃ (a : Addr) (xs : List V) (d : PyData) (ds : List PyData), vs = [V.ref a] ∧ SqL K H a xs ∧ DpAll K H xs (d :: ds) ∧ PySem.W.AlikeAll (d :: ds) ∧ PyData.depthAll (d :: ds) ≤ 60 ∧
  ∀ (i : Nat) (v : V), xs[i]? = some v → (d :: ds)[i]? = some (PySem.W.minD d ds) → Dp K H v (PySem.W.minD d ds) → Q v H
theorem readsAll_get {h : Heap} : ∀ {vs : List Value} {xs : List PyData} {as : List Addr}, ReadsAll h vs xs as → ∀ (i : Nat) (v : Value), vs[i]? = some v → ∃ d bs, xs[i]? = some d ∧ Reads h v d bs
  | _, _, _, .nil, _, _, hv => by simp at hv
  | _, _, _, .cons (d := d) r rs, 0, v, hv => by
    have e := Option.some.inj (show some _ = some v from hv)
    subst e
    exact ⟨d, _, rfl, r⟩
  | _, _, _, .cons r rs, i + 1, v, hv => readsAll_get rs i v (by simpa using hv)
theorem vals_get : ∀ {xs : List V} {us : List Value} {i : Nat} {u : Value}, Vals xs us → us[i]? = some u → ∃ v, xs[i]? = some v ∧ RelV v u
  | _, _, _, _, .nil, h => by simp at h
  | _, _, 0, _, .cons r _, h => by
    have e := Option.some.inj (show some _ = some _ from h)
    subst e
    exact ⟨_, rfl, r⟩
  | _, _, i + 1, _, .cons _ t, h => vals_get (i := i) t (by simpa using h)
theorem cr_minD (hc : X.calm = true) (hu : X.A.units + 65 < cLine) : CallR X (.builtin "min") (rMinD X.K) := by
  intro pins s σ H vs us Q I r h
  obtain ⟨a, xs, d, ds, rfl, hs, hd, hal, hdep, q⟩ := h
  obtain ⟨its, rv, hl, hz⟩ := I.list hs
  rw [Vals.ref1 r]
  obtain ⟨as, ra⟩ := Dp.readsAll I _ _ _ hd rv
  refine PySem.W.min_list_data (vs := its.toArray) (I.ok.hd hc) hl.isList (by simpa using ra) hal (by omega) fun i v h' tk bs hv hr hk => ?_
  have hv' : its[i]? = some v := by simpa using hv
  obtain ⟨x, hx, rx⟩ := vals_get rv hv'
  obtain ⟨e, he, hde⟩ := Dps.get hd hx
  obtain ⟨e2, bs2, he2, r2⟩ := readsAll_get ra i v hv'
  rw [he] at he2
  cases he2
  have eq := (Reads.unique (PyProof.Rows.Reads.keeps hk r2) _ _ hr).1
  subst eq
  exact ⟨x, H, I.kept hk, rx, q i x hx he hde⟩
/-- o.f = v as a target -/
def gFld (K : PySem.W.Frag) (to : TE) (f : Str) : TG := fun v σ H Q => to σ H fun x H1 => ∃ a C dx fs, x = .ref a ∧ H1 a = some (.ins C dx fs) ∧ Cls K C ∧ NoAttr K C f ∧ fs.length < 1000 ∧ Q σ (upd H1 a (.ins C dx (putF f v fs)))
theorem pg_fld {o : Expr} {f : Str} {to : TE} {pos : Pos} (ho : PE X o to) (ha : ∀ v, assign (.Attribute o f pos) X.env v = (do
      let ov ← holding [v] (eval o X.env)
      standAt pos.atName
      holding [v, ov] (setAttr ov f v)
      release [v, ov] []) := by intro _; rfl) : PG X (.Attribute o f pos) (gFld X.K to f) := by
  refine ⟨fun pins s σ H v u Q I r h => ?_⟩
  rw [ha]
  refine wpAny_bind (wpAny_holding (thn (ho.run pins s σ H _ I h) fun ov s1 ⟨x, H1, I1, r1, a, C, dx, fs, ex, ea, c, n, l, q⟩ => ?_))
  subst ex
  obtain rfl : ov = Value.ref a := r1
  refine wpAny_bind (wpAny_standAt (wpAny_bind (wpAny_holding (setattr_ok I1 ea c n l r fun s3 I3 => ?_))))
  exact wpAny_release ⟨σ, _, I3, q⟩
theorem k_gfld {K : PySem.W.Frag} {o : Expr} {f : Str} {to : TE} {pos : Pos} (e : X.K = K) (ho : PE X o to) (ha : ∀ v, assign (.Attribute o f pos) X.env v = (do
      let ov ← holding [v] (eval o X.env)
      standAt pos.atName
      holding [v, ov] (setAttr ov f v)
      release [v, ov] []) := by intro _; rfl) : PG X (.Attribute o f pos) (gFld K to f) := by
  subst e
  exact pg_fld ho ha
/-- d != {} -/
def rNeDE : R2 := fun x y H Q => ∃ a b ks, x = .ref a ∧ y = .ref b ∧ H a = some (.dK ks) ∧ H b = some (.dK []) ∧ Q (.bl (!ks.isEmpty)) H
theorem op_neDE (hu : X.A.units < cLine) : OpR X (compareOp .NotEq) rNeDE := by
  intro pins s σ H x y v u Q I rx ry h
  obtain ⟨a, b, ks, rfl, rfl, ea, eb, q⟩ := h
  obtain rfl : v = Value.ref a := rx
  obtain rfl : u = Value.ref b := ry
  obtain ⟨_, ya, va, ra, da⟩ := (show ObjOk X.prog X.w H s.heap a (.dK ks) from I.hok a _ ea)
  obtain ⟨_, yb, vb, rb, db⟩ := (show ObjOk X.prog X.w H s.heap b (.dK []) from I.hok b _ eb)
  have hl : ks.length = va.length := ra.length
  have hb : vb.length = 0 := rb.length.symm
  cases ks with
  | nil => exact PySem.W.keq_ne (knd := mixKind X.prog X.w) (r := true) ya yb da db hu (fun _ => hits_all rb ra fun p hp => by simp at hp) (fin_bl I q (by simp at hl; simp [hb, ← hl]))
  | cons k ks =>
    have h1 : va.length ≠ 0 := by
      rw [← hl]
      simp
    exact PySem.W.keq_ne (knd := mixKind X.prog X.w) (r := true) ya yb da db hu (fun e => absurd (e.trans hb) h1) (fin_bl I q (by simp [hb, h1]))
end
/-! ### dicts walked by items, under a lock -/
theorem Ex.lock {H H' : Hp} {d : Addr} {u : HO} {o : Obj} (hd : H d = some u) (e : Ex (upd H d (.frz o u)) H') : Ex H (upd H' d u) := fun a w h => by
  by_cases q : a = d
  · subst q
    rw [upd_same, ← hd]
    exact h
  · rw [upd_ne q]
    exact e a w (by rw [upd_ne q]; exact h)
/-- each item a tuple of its own -/
def Tups (H : Hp) (xs : List V) (rs : List (List V)) : Prop := xs.length = rs.length ∧ ∀ (i : Nat) r, rs[i]? = some r → ∃ t, xs[i]? = some (.ref t) ∧ H t = some (.tup r)
theorem Tups.ex {H H' : Hp} {xs : List V} {rs : List (List V)} (h : Tups H xs rs) (e : Ex H H') : Tups H' xs rs := ⟨h.1, fun i r hr => let ⟨t, h1, h2⟩ := h.2 i r hr; ⟨t, h1, e _ _ h2⟩⟩
theorem Tups.nil {H : Hp} : Tups H [] [] := ⟨rfl, fun i r h => by simp at h⟩
theorem Tups.snoc {H : Hp} {xs : List V} {rs : List (List V)} {t : Addr} {r : List V} (h : Tups H xs rs) (ht : H t = some (.tup r)) : Tups H (xs ++ [.ref t]) (rs ++ [r]) := by
  refine ⟨by rw [List.length_append, List.length_append, h.1] <;> rfl, fun i q hq => ?_⟩
  by_cases hi : i < rs.length
  · rw [List.getElem?_append_left hi] at hq
    obtain ⟨u, h1, h2⟩ := h.2 i q hq
    exact ⟨u, by rw [List.getElem?_append_left (by rw [h.1]; exact hi)]; exact h1, h2⟩
  · rw [List.getElem?_append_right (by omega)] at hq
    have hl := (List.getElem?_eq_some_iff.mp hq).1
    have e0 : i - rs.length = 0 := by simp at hl; omega
    rw [e0] at hq
    cases hq
    exact ⟨t, by rw [List.getElem?_append_right (by rw [h.1]; omega), h.1, e0] <;> rfl, ht⟩
theorem Tups.mut {H : Hp} {xs : List V} {rs : List (List V)} {p : Addr} {o : HO} (h : Tups H xs rs) (hp : ∀ r, H p ≠ some (.tup r)) : Tups (upd H p o) xs rs := ⟨h.1, fun i r hr => let ⟨t, h1, h2⟩ := h.2 i r hr; ⟨t, h1, by
  have : t ≠ p := fun e => hp r (e ▸ h2)
  rw [upd_ne this]
  exact h2⟩⟩
theorem take_snoc {α : Type} {l : List α} {i : Nat} {x : α} (h : l[i]? = some x) : l.take (i + 1) = l.take i ++ [x] := by
  have hl := (List.getElem?_eq_some_iff.mp h).1
  rw [List.take_add_one, h]
  rfl
section
variable {K : PySem.W.Frag} {σ : L2.St} {H : Hp} {td : TE}
/-- [(v, k) for k, v in d.items()] -/
theorem lc_itemsVK {d : Addr} {kvs : List (Key × V)} {j1 j2 : Nat} {vs : List Nat} (hd : H d = some (.dK kvs)) (hz : kvs.length ≤ 40000) (hj : ∀ x y, (((wipe σ vs).set j1 (some x)).set j2 (some y))[j1]? = some (some x) ∧ (((wipe σ vs).set j1 (some x)).set j2 (some y))[j2]? = some (some y))
    (hw : ∀ x y, wipe (((wipe σ vs).set j1 (some x)).set j2 (some y)) vs = wipe σ vs) (hl : ∀ od, Ev td σ (upd H d (.frz od (.dK kvs))) (.ref d)) (Q : VK)
    (k : ∀ p xs H2, H p = none → Ex H H2 → H2 p = some (.lst xs) → Tups H2 xs (kvs.map fun kv => [kv.2, kV kv.1]) → Q (.ref p) H2) :
    tLockE (tLc (iItems td) (gTup K 2 (gCons (gName j1) (gCons (gName j2) gNil))) tYes (tTup (tCons (tVar j2) (tCons (tVar j1) tNil))) vs) σ H Q := by
  refine ⟨d, .dK kvs, hd, trivial, fun od => ?_⟩
  refine hl od _ (Ex.refl _) _ fun H1 e1 => ⟨d, od, kvs, rfl, e1 _ _ upd_same, fun D hD => ?_⟩
  refine lc_it walk_items (fun i H' => ∃ acc, H D = none ∧ D ≠ d ∧ Ex H1 H' ∧ H' D = some (.lst acc) ∧ Tups H' acc ((kvs.take i).map fun kv => [kv.2, kV kv.1]) ∧ acc.length = i) ?_ ?_ ?_ ?_
  · have nd : D ≠ d := fun e => by rw [e, e1 _ _ upd_same] at hD; cases hD
    refine ⟨[], ?_, nd, Ex.new hD, upd_same, Tups.nil, rfl⟩
    have := fresh_back e1 hD
    rw [upd_ne nd] at this
    exact this
  · rintro i H' hi ⟨acc, _, _, e2, _⟩
    exact e2 _ _ (e1 _ _ upd_same)
  · rintro i x H2 H3 hi ⟨acc, hD0, nd, e2, h2, ht, hlen⟩ ⟨T0, x0, y0, rfl, hT, rfl, fx, fy⟩
    have gi : kvs[i]? = some kvs[i] := List.getElem?_eq_getElem hi
    dsimp only at fx fy
    rw [gi] at fx fy
    cases fx
    cases fy
    have nT : D ≠ T0 := fun e => by rw [e, hT] at h2; cases h2
    refine ⟨T0, _, rfl, .inl (.inl upd_same), rfl, _, _, rfl, _, _, rfl, rfl, hw _ _, ?_⟩
    refine (yes_ok : EvT tYes _ _ true) _ (Ex.refl _) _ fun H4 e4 => ?_
    rw [if_pos rfl]
    have e3 : Ex H2 H4 := (Ex.new hT).trans e4
    refine ⟨_, (hj _ _).2, _, (hj _ _).1, (by show 2 ≤ sizeLine; decide), fun p hp => ⟨acc, ?_, sz_lt (by omega), acc ++ [.ref p], hD0, nd, ?_, upd_same, ?_, by rw [List.length_append, hlen]; rfl⟩⟩
    · rw [upd_ne (ne_of_none (e3 _ _ h2) hp)]
      exact e3 _ _ h2
    · exact Ex.mut ((e2.trans e3).trans (Ex.new hp)) hD
    · rw [take_snoc gi, List.map_append]
      refine Tups.snoc (Tups.mut ((ht.ex e3).ex (Ex.new hp)) ?_) ?_
      · intro r
        rw [upd_ne (ne_of_none (e3 _ _ h2) hp), e3 _ _ h2]
        exact fun z => nomatch z
      · have : p ≠ D := fun e => by rw [e, e3 _ _ h2] at hp; cases hp
        rw [upd_ne this]
        exact upd_same
  · rintro H' ⟨acc, hD0, nd, e2, h2, ht, hlen⟩
    rw [List.take_length] at ht
    have e12 := e1.trans e2
    refine ⟨e12 _ _ upd_same, ?_⟩
    refine k D acc _ hD0 (Ex.lock hd e12) (by rw [upd_ne nd]; exact h2) (ht.mut fun r => ?_)
    rw [e12 _ _ upd_same]
    exact fun z => nomatch z
theorem putK_new {kvs : List (Key × V)} {k : Key} {v : V} (h : k ∉ kvs.map (·.1)) : putK kvs k v = kvs ++ [(k, v)] := by
  unfold putK
  rw [if_neg]
  intro z
  obtain ⟨kv, h1, h2⟩ := List.any_eq_true.mp z
  exact h (List.mem_map.mpr ⟨kv, h1, of_decide_eq_true h2⟩)
theorem filter_take_snoc {α : Type} {l : List α} {i : Nat} {x : α} {f : α → Bool} (h : l[i]? = some x) : (l.take (i + 1)).filter f = if f x = true then (l.take i).filter f ++ [x] else (l.take i).filter f := by
  rw [take_snoc h, List.filter_append]
  cases hf : f x with
  | true => rw [if_pos rfl, List.filter_cons, if_pos hf] <;> rfl
  | false => rw [if_neg (by decide), List.filter_cons, if_neg (by rw [hf]; decide)] <;> exact List.append_nil _
theorem nodup_at {α β : Type} {l : List α} {g : α → β} (hn : (l.map g).Nodup) {i : Nat} {x : α} (h : l[i]? = some x) : g x ∉ (l.take i).map g := by
  have hs : l.map g = (l.take i).map g ++ (g x :: (l.drop (i + 1)).map g) := by
    have e : l = l.take i ++ (x :: l.drop (i + 1)) := by
      have := (List.getElem?_eq_some_iff.mp h)
      obtain ⟨hl, rfl⟩ := this
      rw [← List.drop_eq_getElem_cons hl, List.take_append_drop]
    conv => lhs; rw [e]
    rw [List.map_append, List.map_cons]
  rw [hs] at hn
  intro hm
  have := (List.nodup_append.mp hn).2.2 _ hm _ List.mem_cons_self
  exact this rfl
/-- {k: v for k, v in d.items() if ..} -/
theorem dc_items {d : Addr} {kvs : List (Key × V)} {j1 j2 : Nat} {vs : List Nat} {tt : TT} (f : Key × V → Bool) (hd : H d = some (.dK kvs)) (hz : kvs.length ≤ 40000) (hn : (kvs.map (·.1)).Nodup)
    (hj : ∀ x y, (((wipe σ vs).set j1 (some x)).set j2 (some y))[j1]? = some (some x) ∧ (((wipe σ vs).set j1 (some x)).set j2 (some y))[j2]? = some (some y))
    (hw : ∀ x y, wipe (((wipe σ vs).set j1 (some x)).set j2 (some y)) vs = wipe σ vs) (hl : ∀ od, Ev td σ (upd H d (.frz od (.dK kvs))) (.ref d))
    (ht : ∀ od kv H1, Ex (upd H d (.frz od (.dK kvs))) H1 → kv ∈ kvs → EvT tt (((wipe σ vs).set j1 (some (kV kv.1))).set j2 (some kv.2)) H1 (f kv)) (Q : VK)
    (k : ∀ p H2, H p = none → Ex H H2 → H2 p = some (.dK (kvs.filter f)) → Q (.ref p) H2) :
    tLockE (tDc (iItems td) (gTup K 2 (gCons (gName j1) (gCons (gName j2) gNil))) tt (tVar j1) (tVar j2) vs) σ H Q := by
  refine ⟨d, .dK kvs, hd, trivial, fun od => ?_⟩
  refine hl od _ (Ex.refl _) _ fun H1 e1 => ⟨d, od, kvs, rfl, e1 _ _ upd_same, fun D hD => ?_⟩
  have nd : D ≠ d := fun e => by rw [e, e1 _ _ upd_same] at hD; cases hD
  have hD0 : H D = none := by
    have := fresh_back e1 hD
    rw [upd_ne nd] at this
    exact this
  refine ⟨fun i m H' => m = kvs.length - i ∧ i ≤ kvs.length ∧ Ex H1 H' ∧ H' D = some (.dK ((kvs.take i).filter f)), ⟨kvs.length, by simp, Nat.zero_le _, Ex.new hD, upd_same⟩, ?_⟩
  rintro i m H2 ⟨rfl, hi, e2, h2⟩
  have hdl : H2 d = some (.frz od (.dK kvs)) := e2 _ _ (e1 _ _ upd_same)
  by_cases hlt : i < kvs.length
  · have gi : kvs[i]? = some kvs[i] := List.getElem?_eq_getElem hlt
    refine .inr ⟨walk_items.goes i H2 hlt hdl, fun H' => Ex H1 H' ∧ H' D = some (.dK ((kvs.take (i + 1)).filter f)), fun H' h' => ⟨kvs.length - (i + 1), by omega, rfl, hlt, h'.1, h'.2⟩, ?_⟩
    intro x H3 y
    obtain ⟨T0, x0, y0, rfl, hT, rfl, fx, fy⟩ := walk_items.yields i H2 x H3 hlt hdl y
    dsimp only at fx fy
    rw [gi] at fx fy
    cases fx
    cases fy
    refine ⟨T0, _, rfl, .inl (.inl upd_same), rfl, _, _, rfl, _, _, rfl, rfl, hw _ _, ?_⟩
    have e3 : Ex H2 (upd H2 T0 (.tup [kV kvs[i].1, kvs[i].2])) := Ex.new hT
    refine ht od kvs[i] _ ((e1.trans e2).trans e3) (List.getElem_mem hlt) _ (Ex.refl _) _ fun H4 e4 => ?_
    have e24 := e3.trans e4
    rw [filter_take_snoc gi]
    cases hf : f kvs[i] with
    | false => exact ⟨e2.trans e24, e24 _ _ h2⟩
    | true =>
      refine ⟨_, (hj _ _).1, _, (hj _ _).2, _, kvs[i].1, rfl, e24 _ _ h2, ?_, ?_, ?_⟩
      · refine sz_lt (Nat.lt_of_le_of_lt (List.length_filter_le ..) ?_)
        rw [List.length_take]
        omega
      · exact Ex.mut (e2.trans e24) hD
      · rw [upd_same, putK_new]
        · rfl
        · intro hm
          obtain ⟨kv, h3, h4⟩ := List.mem_map.mp hm
          exact nodup_at hn gi (List.mem_map.mpr ⟨kv, (List.mem_filter.mp h3).1, h4⟩)
  · have e0 : i = kvs.length := by omega
    subst e0
    rw [List.take_length] at h2
    have e12 := e1.trans e2
    exact .inl ⟨walk_items.stops H2 hdl, hdl, k D _ hD0 (Ex.lock hd e12) (by rw [upd_ne nd]; exact h2)⟩
end
/-! ### fields by name -/
theorem lk_hit {f : Str} {v : V} {r : List (Str × V)} : List.lookup f ((f, v) :: r) = some v := by rw [List.lookup_cons, beq_self_eq_true]
theorem lk_miss {f g : Str} {v : V} {r : List (Str × V)} (h : (f == g) = false) : List.lookup f ((g, v) :: r) = List.lookup f r := by rw [List.lookup_cons, h]
theorem lk_nil {f : Str} : List.lookup f ([] : List (Str × V)) = none := rfl
theorem pf_hit {f : Str} {v x : V} {r : List (Str × V)} : putF f v ((f, x) :: r) = (f, v) :: r := if_pos rfl
theorem pf_miss {f g : Str} {v x : V} {r : List (Str × V)} (h : ¬ g = f) : putF f v ((g, x) :: r) = (g, x) :: putF f v r := if_neg h
theorem pf_nil {f : Str} {v : V} : putF f v [] = [(f, v)] := rfl
section
variable {K : PySem.W.Frag} {σ : L2.St} {H H' : Hp} {te to : TE} {v : V} {D : Ends} {tz : TS} {C p dx : Addr} {fs : List (Str × V)} {f : Str}
theorem s_fld (hv : Ev te σ H v) (ho : ∀ H1, Ex H H1 → Ev to σ H1 (.ref p)) (hp : H p = some (.ins C dx fs)) (cl : Cls K C) (na : NoAttr K C f) (hz : fs.length < 1000) (k : ∀ H1, Ex H H1 → D.nx σ (upd H1 p (.ins C dx (putF f v fs)))) : sFld K to te f D σ H :=
  hv H (Ex.refl _) _ fun H1 e1 => ho H1 e1 H1 (Ex.refl _) _ fun H2 e2 => ⟨p, C, dx, fs, rfl, e2 _ _ (e1 _ _ hp), cl, na, hz, k H2 (e1.trans e2)⟩
theorem q_fld (hv : Ev te σ H v) (ho : ∀ H1, Ex H H1 → Ev to σ H1 (.ref p)) (hp : H p = some (.ins C dx fs)) (cl : Cls K C) (na : NoAttr K C f) (hz : fs.length < 1000) (k : ∀ H1, Ex H H1 → tz D σ (upd H1 p (.ins C dx (putF f v fs)))) : tSeq (sFld K to te f) tz D σ H :=
  s_fld (D := { D with nx := tz D }) hv ho hp cl na hz k
end
theorem dps_of_tups {K : PySem.W.Frag} {H : Hp} {α : Type} (r : α → List V) (dd : α → PyData) (h : ∀ a t, H t = some (.tup (r a)) → Dp K H (.ref t) (dd a)) : ∀ {as : List α} {xs : List V}, Tups H xs (as.map r) → DpAll K H xs (as.map dd)
  | [], xs, q => by
    have := q.1
    rw [List.map_nil, List.length_nil] at this
    rw [List.eq_nil_of_length_eq_zero this]
    exact .nil
  | a :: as, [], q => by
    have := q.1
    simp at this
  | a :: as, x :: xs, q => by
    obtain ⟨t, h1, h2⟩ := q.2 0 (r a) rfl
    cases h1
    refine .cons (h a t h2) (dps_of_tups r dd h ⟨by have := q.1; simpa using this, fun i s hs => ?_⟩)
    have := q.2 (i + 1) s (by simpa using hs)
    simpa using this
theorem given_filter (l : List Int) (f : Int → Bool) : given l.length (fun i => f (l.getD i 0)) (fun i => V.int (l.getD i 0)) = (l.filter f).map V.int := by
  unfold given
  have e : l = (List.range l.length).map fun i => l.getD i 0 := by
    refine List.ext_getElem (by simp) fun i h1 h2 => ?_
    simp [List.getD_eq_getElem?_getD, List.getElem?_eq_getElem h1]
  conv => rhs; rw [e]
  rw [List.filter_map, List.map_map]
  rfl
section
variable {K : PySem.W.Frag} {σ : L2.St} {H H' : Hp} {te to : TE} {xs : List V} {D : Ends} {tz : TS} {g : TG}
theorem q_asgUG (h : EvU te σ H xs) (k : ∀ p H1, H p = none → Ex H H1 → H1 p = some (.tup xs) → g (.ref p) σ H1 (tz D)) : tSeq (tAsg te g) tz D σ H := h H (Ex.refl H) _ k
theorem s_asgUG (h : EvU te σ H xs) (k : ∀ p H1, H p = none → Ex H H1 → H1 p = some (.tup xs) → g (.ref p) σ H1 D.nx) : tAsg te g D σ H := h H (Ex.refl H) _ k
end
/-! ### up to a word of the value and the heap -/
def EvX (te : TE) (σ : L2.St) (H : Hp) (R : V → Hp → Prop) : Prop := ∀ Q : VK, (∀ v H1, R v H1 → Q v H1) → te σ H Q
section
variable {K : PySem.W.Frag} {σ : L2.St} {H H' : Hp} {te to ta : TE} {R R' : V → Hp → Prop} {D : Ends} {tz : TS} {g : TG} {f : Str} {r : List V → Hp → VK → Prop}
theorem evx_cb1 (h : EvX te σ H R) (k : ∀ v H1, R v H1 → ∀ Q : VK, (∀ z H2, R' z H2 → Q z H2) → r [v] H1 Q) : EvX (tCB r (tCons te tNil)) σ H R' := fun Q q => h _ fun v H1 hr => k v H1 hr Q q
theorem q_fldX (h : EvX te σ H R) (k : ∀ v H1, R v H1 → to σ H1 fun x H2 => ∃ a C dx fs, x = .ref a ∧ H2 a = some (.ins C dx fs) ∧ Cls K C ∧ NoAttr K C f ∧ fs.length < 1000 ∧ tz D σ (upd H2 a (.ins C dx (putF f v fs)))) : tSeq (sFld K to te f) tz D σ H := h _ k
theorem s_fldX (h : EvX te σ H R) (k : ∀ v H1, R v H1 → to σ H1 fun x H2 => ∃ a C dx fs, x = .ref a ∧ H2 a = some (.ins C dx fs) ∧ Cls K C ∧ NoAttr K C f ∧ fs.length < 1000 ∧ D.nx σ (upd H2 a (.ins C dx (putF f v fs)))) : sFld K to te f D σ H := h _ k
theorem q_asgX (h : EvX te σ H R) (k : ∀ v H1, R v H1 → g v σ H1 (tz D)) : tSeq (tAsg te g) tz D σ H := h _ k
theorem s_asgX (h : EvX te σ H R) (k : ∀ v H1, R v H1 → g v σ H1 D.nx) : tAsg te g D σ H := h _ k
theorem s_retX (h : EvX te σ H R) (k : ∀ v H1, R v H1 → D.rt v H1) : tRet te D σ H := h _ k
theorem q_dropX (h : EvX te σ H R) (k : ∀ v H1, R v H1 → tz D σ H1) : tSeq (tDrop te) tz D σ H := h _ k
theorem s_dropX (h : EvX te σ H R) (k : ∀ v H1, R v H1 → D.nx σ H1) : tDrop te D σ H := h _ k
end
/-- for j in range(e), e drawn -/
theorem s_forD {b : Addr × Addr} {σ : L2.St} {H : Hp} {te : TE} {tu : TS} {D : Ends} {j : Nat} {N : Int} (hb : Bag H b) (h : DrI b te σ H fun n => 0 ≤ n ∧ n ≤ N) (hN : N ≤ 100000) (Pv : Nat → L2.St → Hp → Prop) (h0 : ∀ H1, Step b H H1 → Pv 0 σ H1)
    (hs : ∀ (i : Nat) σ' H', (i : Int) < N → Pv i σ' H' → tu { D with nx := Pv (i + 1), ct := Pv (i + 1), bk := D.nx } (σ'.set j (some (.int (i : Int)))) H') (hd : ∀ i σ' H', Pv i σ' H' → D.nx σ' H') : tFor (iRng1 (tCons te tNil)) (gName j) tu D σ H :=
  h H (.refl hb) _ fun n H1 s1 hn => ⟨n, rfl, by omega, by omega, for_range (lo := 0) (n := n.toNat) Pv (h0 H1 s1) (fun i σ' H' hi p => by
    have e0 : (0 : Int) + (i : Int) = (i : Int) := Int.zero_add _
    show tu { D with nx := Pv (i + 1), ct := Pv (i + 1), bk := D.nx } (σ'.set j (some (.int ((0 : Int) + (i : Int))))) H'
    rw [e0]
    exact hs i σ' H' (by omega) p) (hd _)⟩
theorem q_forD {b : Addr × Addr} {σ : L2.St} {H : Hp} {te : TE} {tu : TS} {D : Ends} {tz : TS} {j : Nat} {N : Int} (hb : Bag H b) (h : DrI b te σ H fun n => 0 ≤ n ∧ n ≤ N) (hN : N ≤ 100000) (Pv : Nat → L2.St → Hp → Prop) (h0 : ∀ H1, Step b H H1 → Pv 0 σ H1)
    (hs : ∀ (i : Nat) σ' H', (i : Int) < N → Pv i σ' H' → tu { D with nx := Pv (i + 1), ct := Pv (i + 1), bk := tz D } (σ'.set j (some (.int (i : Int)))) H') (hd : ∀ i σ' H', Pv i σ' H' → tz D σ' H') : tSeq (tFor (iRng1 (tCons te tNil)) (gName j) tu) tz D σ H :=
  s_forD (D := { D with nx := tz D }) hb h hN Pv h0 hs hd
/-- if take(b, ..) == 0: either way -/
theorem q_any {b : Addr × Addr} {σ : L2.St} {H : Hp} {t : TT} {D : Ends} {tz ta tb : TS} (h : TAny (Step b) t σ H) (h1 : ∀ H2, Step b H H2 → ta { D with nx := tz D } σ H2) (h2 : ∀ H2, Step b H H2 → tb { D with nx := tz D } σ H2) : tSeq (tIfS t ta tb) tz D σ H := h _ fun c H2 s => by
  cases c with
  | true => exact h1 H2 s
  | false => exact h2 H2 s
theorem tany_dri {b : Addr × Addr} {σ : L2.St} {H : Hp} {te : TE} {p : Int → Prop} {c : Int} (hb : Bag H b) (h : DrI b te σ H p) : TAny (Step b) (tTest (tOp rEq te (tC (.int c)))) σ H := fun Q q =>
  h H (.refl hb) _ fun i H1 s _ => ⟨rfl, _, rfl, q _ _ s⟩
theorem tany_lt {b : Addr × Addr} {σ : L2.St} {H : Hp} {te : TE} {p : Int → Prop} {c : Int} (hb : Bag H b) (h : DrI b te σ H p) : TAny (Step b) (tTest (tOp (rI0 fun i j => .bl (decide (i < j))) te (tC (.int c)))) σ H := fun Q q =>
  h H (.refl hb) _ fun i H1 s _ => ⟨_, _, rfl, rfl, _, rfl, q _ _ s⟩
/-- max(a, e) -/
theorem dri_max2 {b : Addr × Addr} {σ : L2.St} {H : Hp} {ta tb : TE} {p q r : Int → Prop} (h1 : DrI b ta σ H p) (h2 : DrI b tb σ H q) (h : ∀ i j, p i → q j → r (if j > i then j else i)) : DrI b (tCB (fun xs H Q => ∃ i j, xs = [V.int i, V.int j] ∧ Q (.int (if j > i then j else i)) H) (tCons ta (tCons tb tNil))) σ H r := fun H1 s Q k =>
  h1 H1 s _ fun i H2 s2 pi => h2 H2 (s.trans s2) _ fun j H3 s3 qj => ⟨i, j, rfl, k _ H3 (s2.trans s3) (h i j pi qj)⟩
section
variable {K : PySem.W.Frag} {b : Addr × Addr} {σ : L2.St} {H : Hp} {ta tb ti te : TE} {p q r : Int → Prop} {D : Ends} {tz : TS}
theorem q_parD {i j : Nat} (hb : Bag H b) (h1 : DrI b ta σ H p) (h2 : DrI b tb σ H q) (k : ∀ x y H1, Step b H H1 → p x → q y → tz D ((σ.set i (some (.int x))).set j (some (.int y))) H1) : tSeq (tPar i j (tCons ta (tCons tb tNil))) tz D σ H :=
  h1 H (.refl hb) _ fun x H1 s1 px => h2 H1 s1 _ fun y H2 s2 qy => ⟨_, _, rfl, k x y H2 (s1.trans s2) px qy⟩
theorem dri_ixL {a : Addr} {j : Nat} {os : List Int} (hσ : σ[j]? = some (some (.ref a))) (ha : H a = some (.lst (os.map V.int))) (na : a ≠ b.1) (hi : DrI b ti σ H fun i => 0 ≤ i ∧ i < os.length) (hp : ∀ o ∈ os, p o) : DrI b (tOp (rIxL K) (tVar j) ti) σ H p := fun H1 s Q k =>
  ⟨_, hσ, hi H1 s _ fun i H2 s2 ⟨i0, i1⟩ => by
    obtain ⟨n, rfl⟩ := Int.eq_ofNat_of_zero_le i0
    have hn : n < os.length := by omega
    exact ⟨a, os.map V.int, (n : Int), .int os[n], rfl, rfl, sq_of ((s.trans s2).at na ha), atI_nat (by rw [List.getElem?_map, List.getElem?_eq_getElem hn]; rfl), k _ H2 s2 (hp _ (List.getElem_mem hn))⟩⟩
theorem dri_lenL {a : Addr} {j : Nat} {xs : List V} (hσ : σ[j]? = some (some (.ref a))) (ha : H a = some (.lst xs)) (na : a ≠ b.1) (hp : p xs.length) : DrI b (tCB (rLen K) (tCons (tVar j) tNil)) σ H p := fun H1 s Q k =>
  ⟨_, hσ, a, xs, rfl, .inl (sq_of (s.at na ha)), k _ H1 (.refl s.1) hp⟩
theorem dri_ev {i : Int} (h : ∀ H1, Step b H H1 → Ev te σ H1 (.int i)) (hp : p i) : DrI b te σ H p := fun H1 s Q k => h H1 s H1 (Ex.refl _) Q fun H2 e => k i H2 (.pure s.1 e) hp
end
section
variable {K : PySem.W.Frag} {σ : L2.St} {H : Hp} {ta tb te : TE} {R : V → Hp → Prop} {S : V → V → Hp → Prop} {D : Ends} {tz tu : TS} {xs : List V} {E : XK}
theorem EvL.x (h : EvL te σ H xs) : EvX te σ H fun v H1 => ∃ p, v = .ref p ∧ H p = none ∧ Ex H H1 ∧ H1 p = some (.lst xs) := fun Q q => h H (Ex.refl _) Q fun p H1 h0 e h1 => q _ _ ⟨p, rfl, h0, e, h1⟩
theorem EvU.x (h : EvU te σ H xs) : EvX te σ H fun v H1 => ∃ p, v = .ref p ∧ H p = none ∧ Ex H H1 ∧ H1 p = some (.tup xs) := fun Q q => h H (Ex.refl _) Q fun p H1 h0 e h1 => q _ _ ⟨p, rfl, h0, e, h1⟩
theorem Ev.x {v : V} (h : Ev te σ H v) : EvX te σ H fun u H1 => u = v ∧ Ex H H1 := fun Q q => h H (Ex.refl _) Q fun H1 e => q _ _ ⟨rfl, e⟩
/-- if not alike(a, b): return False -/
theorem s_alikeX (h1 : EvX ta σ H R) (h2 : ∀ v H1, R v H1 → EvX tb σ H1 (S v)) (h : ∀ v u H2, S v u H2 → ∃ d, Dp K H2 v d ∧ Dp K H2 u d ∧ Wm.Rep 60 1000000 d) (k : ∀ v u H2 H3, S v u H2 → Ex H2 H3 → D.nx σ H3) : tIfS (tNot (tB (tCl (Wm.spAlike K) E (tCons ta (tCons tb tNil))))) tu tNext D σ H :=
  h1 _ fun v H1 r1 => h2 v H1 r1 _ fun u H2 r2 => let ⟨d, hv, hu, hr⟩ := h v u H2 r2; ⟨v, u, d, rfl, hv, hu, hr, fun H3 e3 => ⟨true, rfl, k v u H2 H3 r2 e3⟩⟩
theorem q_alikeX (h1 : EvX ta σ H R) (h2 : ∀ v H1, R v H1 → EvX tb σ H1 (S v)) (h : ∀ v u H2, S v u H2 → ∃ d, Dp K H2 v d ∧ Dp K H2 u d ∧ Wm.Rep 60 1000000 d) (k : ∀ v u H2 H3, S v u H2 → Ex H2 H3 → tz D σ H3) : tSeq (tIfS (tNot (tB (tCl (Wm.spAlike K) E (tCons ta (tCons tb tNil))))) tu tNext) tz D σ H := s_alikeX (D := { D with nx := tz D }) h1 h2 h k
end
section
variable {X : Cx}
/-- d.update(e), e another dict -/
def rUpdate : V → List V → Hp → VK → Prop := fun x vs H Q => ∃ a b ks ls, x = .ref a ∧ vs = [.ref b] ∧ H a = some (.dK ks) ∧ H b = some (.dK ls) ∧ a ≠ b ∧ ks.length + ls.length ≤ sizeLine ∧ Q .non (upd H a (.dK (mergeK ks ls)))
theorem mt_update : MtR X "dict.update" rUpdate := by
  intro pins s σ H x vs v us Q I rx rv h
  obtain ⟨a, b, ks, ls, rfl, rfl, ha, hb, ne, hz, q⟩ := h
  obtain rfl : v = Value.ref a := rx
  obtain ⟨u, rfl, ru⟩ := rv.one
  obtain rfl : u = Value.ref b := ru
  obtain ⟨z, hd, va, rel, dd⟩ := dk_of I.hok ha
  obtain ⟨z2, hd2, vb, rel2, dd2⟩ := dk_of I.hok hb
  refine call_meetsIn PySem.F.slot_dict_update dd.typeIs PySem.F.entry_dict_update (PySem.F.args_dict_update_2 _ _) (meets_dict_update (mixKind X.prog X.w) a b ne hd2) ⟨va, vb, dd, dd2, by rw [← rel.length, ← rel2.length]; exact hz, fun h' dd' _ hs => ?_⟩
  have he : ∃ q, h'.get? a = some q := let ⟨q, _, _, hq, _⟩ := dd'; ⟨q, hq⟩
  have hl : (mergeK ks ls).length ≤ sizeLine := Nat.le_trans (length_mergeK _ _) hz
  exact ⟨.non, _, d_write I (by rw [ha]; exact True.intro) hs he (dk_new hl hd (KV.merge rel2 rel) dd'), rfl, q⟩
end
/-! ### dicts walked by keys, under a lock -/
section
variable {K : PySem.W.Frag} {σ : L2.St} {H : Hp} {td te : TE} {tt : TT} {ta : TA}
theorem lc_keysV {d : Addr} {kvs : List (Key × V)} {j : Nat} {vs : List Nat} (f : Nat → Bool) (v : Nat → V) (hd : H d = some (.dK kvs)) (hz : kvs.length ≤ 40000) (hw : ∀ x, wipe ((wipe σ vs).set j (some x)) vs = wipe σ vs) (hl : ∀ od, Ev td σ (upd H d (.frz od (.dK kvs))) (.ref d))
    (ht : ∀ od (i : Nat) kv H1, Ex (upd H d (.frz od (.dK kvs))) H1 → kvs[i]? = some kv → EvT tt ((wipe σ vs).set j (some (kV kv.1))) H1 (f i))
    (he : ∀ od (i : Nat) kv H1, Ex (upd H d (.frz od (.dK kvs))) H1 → kvs[i]? = some kv → f i = true → Ev te ((wipe σ vs).set j (some (kV kv.1))) H1 (v i)) :
    EvX (tLockE (tLc (iKeys td) (gName j) tt te vs)) σ H fun u H2 => ∃ p, u = .ref p ∧ H p = none ∧ Ex H H2 ∧ H2 p = some (.lst (given kvs.length f v)) := by
  intro Q q
  refine ⟨d, .dK kvs, hd, trivial, fun od => ?_⟩
  refine hl od _ (Ex.refl _) _ fun H1 e1 => ⟨d, od, rfl, .inl ⟨kvs, e1 _ _ upd_same, fun D hD => ?_⟩⟩
  have nd : D ≠ d := fun e => by rw [e, e1 _ _ upd_same] at hD; cases hD
  have hD0 : H D = none := by
    have := fresh_back e1 hD
    rw [upd_ne nd] at this
    exact this
  refine lc_it walk_keys (Cw H1 f v D) ⟨hD, Ex.new hD, upd_same⟩ (fun i H' _ p => p.2.1 _ _ (e1 _ _ upd_same)) ?_ fun H' p => ?_
  · rintro i x H2 H3 hi p ⟨rfl, k, u, hk, rfl⟩
    exact ⟨hw _, cw_turn p (by omega) (ht od i (k, u) H1 e1 hk) (fun hf => he od i (k, u) H1 e1 hk hf)⟩
  · have e12 := e1.trans p.2.1
    exact ⟨e12 _ _ upd_same, q _ _ ⟨D, rfl, hD0, Ex.lock hd e12, by rw [upd_ne nd]; exact p.2.2⟩⟩
theorem lc_keysU {d : Addr} {kvs : List (Key × V)} {j : Nat} {vs : List Nat} (v : Key × V → List V) (hd : H d = some (.dK kvs)) (hz : kvs.length ≤ 40000) (hw : ∀ x, wipe ((wipe σ vs).set j (some x)) vs = wipe σ vs) (hl : ∀ od, Ev td σ (upd H d (.frz od (.dK kvs))) (.ref d))
    (he : ∀ od kv H1, Ex (upd H d (.frz od (.dK kvs))) H1 → kv ∈ kvs → EvU te ((wipe σ vs).set j (some (kV kv.1))) H1 (v kv)) :
    EvX (tLockE (tLc (iKeys td) (gName j) tYes te vs)) σ H fun u H2 => ∃ p xs, u = .ref p ∧ H p = none ∧ Ex H H2 ∧ H2 p = some (.lst xs) ∧ Tups H2 xs (kvs.map v) := by
  intro Q q
  refine ⟨d, .dK kvs, hd, trivial, fun od => ?_⟩
  refine hl od _ (Ex.refl _) _ fun H1 e1 => ⟨d, od, rfl, .inl ⟨kvs, e1 _ _ upd_same, fun D hD => ?_⟩⟩
  have nd : D ≠ d := fun e => by rw [e, e1 _ _ upd_same] at hD; cases hD
  have hD0 : H D = none := by
    have := fresh_back e1 hD
    rw [upd_ne nd] at this
    exact this
  refine lc_it walk_keys (fun i H' => ∃ acc, Ex H1 H' ∧ H' D = some (.lst acc) ∧ Tups H' acc ((kvs.take i).map v) ∧ acc.length = i) ⟨[], Ex.new hD, upd_same, Tups.nil, rfl⟩ (fun i H' _ p => let ⟨_, e2, _⟩ := p; e2 _ _ (e1 _ _ upd_same)) ?_ ?_
  · rintro i x H2 H3 hi ⟨acc, e2, h2, ht, hlen⟩ ⟨rfl, k, u, hk, rfl⟩
    refine ⟨hw _, ?_⟩
    refine (yes_ok : EvT tYes _ _ true) _ (Ex.refl _) _ fun H4 e4 => ?_
    rw [if_pos rfl]
    refine he od (k, u) _ ((e1.trans e2).trans e4) (List.mem_of_getElem? hk) _ (Ex.refl _) _ fun p H5 p0 e5 hp => ⟨acc, e5 _ _ (e4 _ _ h2), sz_lt (by omega), acc ++ [.ref p], Ex.mut ((e2.trans e4).trans e5) hD, upd_same, ?_, by rw [List.length_append, hlen]; rfl⟩
    have h25 := e5 _ _ (e4 _ _ h2)
    rw [take_snoc hk, List.map_append]
    refine Tups.snoc (Tups.mut (ht.ex (e4.trans e5)) ?_) ?_
    · intro r
      rw [h25]
      exact fun z => nomatch z
    · have : p ≠ D := fun e => by rw [e, e4 _ _ h2] at p0; cases p0
      rw [upd_ne this]
      exact hp
  · rintro H' ⟨acc, e2, h2, ht, hlen⟩
    rw [List.take_length] at ht
    have e12 := e1.trans e2
    refine ⟨e12 _ _ upd_same, q _ _ ⟨D, acc, rfl, hD0, Ex.lock hd e12, by rw [upd_ne nd]; exact h2, ht.mut fun r => ?_⟩⟩
    rw [e12 _ _ upd_same]
    exact fun z => nomatch z
end
theorem mergeK_new : ∀ {ls ks : List (Key × V)}, ((ks ++ ls).map (·.1)).Nodup → mergeK ks ls = ks ++ ls
  | [], ks, _ => (List.append_nil ks).symm
  | p :: ls, ks, h => by
    have hp : p.1 ∉ ks.map (·.1) := by
      rw [List.map_append, List.map_cons, List.nodup_append] at h
      intro hm
      exact h.2.2 _ hm _ List.mem_cons_self rfl
    show mergeK (putK ks p.1 p.2) ls = _
    rw [putK_new hp, mergeK_new (by rw [List.append_assoc]; exact h), List.append_assoc]
    rfl
/-- int(e == c) -/
theorem dri_eqI {b : Addr × Addr} {σ : L2.St} {H : Hp} {ta : TE} {p : Int → Prop} {c : Int} (h1 : DrI b ta σ H p) : DrI b (tCB (fun xs H Q => (∃ i, xs = [V.int i] ∧ Q (.int i) H) ∨ ∃ k, xs = [V.bl k] ∧ Q (.int (if k then 1 else 0)) H) (tCons (tOp rEq ta (tC (.int c))) tNil)) σ H fun x => 0 ≤ x ∧ x < 2 := fun H1 s Q k =>
  h1 H1 s _ fun i H2 s2 pi => ⟨rfl, .inr ⟨_, rfl, k _ H2 s2 (by split <;> omega)⟩⟩
end Lf
end
section
set_option Elab.async false
set_option linter.all false
set_option maxRecDepth 100000
set_option maxHeartbeats 4000000
/-! Ly: setdefault with a key that is a tuple. -/
namespace Lf
open PySem PySem.Spec PyProof.Rows L2
open Evl
variable {X : Cx}
theorem u2 {k : Nat} {A : Around} (hr : Room k A) : A.units + 1 < cLine := by have := hr.un; omega
def rSetdT : V → List V → Hp → VK → Prop := fun x xs H Q => ∃ (a : Addr) (kvs : List (List L2.Key × V)) (k : List L2.Key) (b : Addr) (d : V), x = .ref a ∧ xs = [.ref b, d] ∧ H a = some (.dT kvs) ∧ H b = some (.tup (k.map kV)) ∧ kvs.length < sizeLine ∧
  (∀ v, valV kvs k = some v → Q v H) ∧ (valV kvs k = none → Q d (upd H a (.dT (putK kvs k d))))
theorem mt_setdT (hu : X.A.units + 1 < cLine) : MtR X "dict.setdefault" rSetdT := by
  intro pins s σ H x xs v us Q I rx rxs h
  obtain ⟨a, kvs, k, b, d, rfl, rfl, ha, hb, hl, q1, q2⟩ := h
  cases rx
  obtain ⟨u1, u2, rfl, r1, r2⟩ := vals2 rxs
  cases r1
  obtain ⟨z, hd, xs', rel, dd⟩ := dt_of I.hok ha
  have hz : xs'.length ≤ sizeLine := by rw [← Paired.length rel]; exact z
  refine call_setdefault_heap (hsz := hz) (tupleKind_room_in1 hu) (key_of I.hok hb) hd dd (fun p hp => ?_) fun hn h' dd' hs => ?_
  · have r := rel.val k
    rw [hp] at r
    obtain ⟨v0, ev, rv⟩ : ∃ v0, valV kvs k = some v0 ∧ RelV v0 p.2 := by
      cases ev : valV kvs k with
      | none =>
        rw [ev] at r
        exact (show False from r).elim
      | some v0 =>
        rw [ev] at r
        exact ⟨v0, rfl, r⟩
    show EP X pins σ Q p.2 _
    exact ⟨v0, H, I.tok _, rv, q1 v0 ev⟩
  · have r := rel.val k
    rw [hn] at r
    have e : valV kvs k = none := by
      cases ev : valV kvs k with
      | none => rfl
      | some v0 =>
        rw [ev] at r
        exact (show False from r).elim
    have hl2 : (putK kvs k d).length ≤ sizeLine := by have := length_putK kvs k d; omega
    obtain ⟨q, es, ep, hq, h2, h3, h4, _, h5⟩ := dd'
    refine ⟨d, upd H a (.dT (putK kvs k d)), d_write I (by rw [ha]; exact True.intro) hs ⟨q, hq⟩ ⟨hl2, hd, _, (rel.put k hb r2).keeps fun c ys ec => ?_, q, es, ep, hq, h2, h3, h4, h5⟩, r2, q2 e⟩
    rw [upd_ne (ne_of ec ha (fun z => nomatch z))]
    exact ec
end Lf
end
section
set_option Elab.async false
set_option linter.all false
set_option maxRecDepth 100000
set_option maxHeartbeats 4000000
/-! the mathematics of distances: which places come to be reached, step by step -/
namespace Wm
open PySem PySem.Spec PyProof.Rows L2 Lf
open Evl
def rch (ps : PS) (al : List Nat) : Nat → Nat → Bool
  | 0, p => decide (p = 0)
  | k + 1, p => decide (p ∈ al) && (rowOf ps p).any fun q => rch ps al k q
def dist (ps : PS) (al : List Nat) (s p : Nat) : Option Nat := (List.range s).find? fun k => rch ps al k p
def edgeAt (ps : PS) (al : List Nat) : Nat → List Nat
  | 0 => [0]
  | s + 1 => al.filter fun p => (dist ps al (s + 1) p).isNone && (rowOf ps p).any fun x => decide (x ∈ edgeAt ps al s)
def far (m : Nat) (ps : PS) (al : List Nat) (p : Nat) : Option Nat := dist ps al m p
section
variable {ps : PS} {al : List Nat}
theorem rch_succ {k p : Nat} : rch ps al (k + 1) p = true ↔ p ∈ al ∧ ∃ q, q ∈ rowOf ps p ∧ rch ps al k q = true := by
  show (decide (p ∈ al) && (rowOf ps p).any fun q => rch ps al k q) = true ↔ _
  rw [Bool.and_eq_true, decide_eq_true_eq, List.any_eq_true]
theorem dist_none {s p : Nat} : dist ps al s p = none ↔ ∀ k, k < s → rch ps al k p = false := by
  unfold dist
  rw [List.find?_eq_none]
  constructor
  · intro h k hk
    have := h k (List.mem_range.mpr hk)
    simpa using this
  · intro h k hk
    rw [h k (List.mem_range.mp hk)]
    decide
theorem dist_some {s p k : Nat} : dist ps al s p = some k ↔ k < s ∧ rch ps al k p = true ∧ ∀ j, j < k → rch ps al j p = false := by
  unfold dist
  rw [List.find?_range_eq_some]
  constructor
  · rintro ⟨h1, h2, h3⟩
    exact ⟨List.mem_range.mp h2, h1, fun j hj => by simpa using h3 j hj⟩
  · rintro ⟨h1, h2, h3⟩
    exact ⟨h2, List.mem_range.mpr h1, fun j hj => by rw [h3 j hj]; decide⟩
theorem mem_edge : ∀ {s p : Nat}, p ∈ edgeAt ps al s ↔ rch ps al s p = true ∧ dist ps al s p = none
  | 0, p => by
    show p ∈ [0] ↔ decide (p = 0) = true ∧ _
    rw [List.mem_singleton, decide_eq_true_eq]
    exact ⟨fun h => ⟨h, rfl⟩, fun h => h.1⟩
  | s + 1, p => by
    show p ∈ al.filter _ ↔ _
    rw [List.mem_filter, Bool.and_eq_true, List.any_eq_true, rch_succ]
    constructor
    · rintro ⟨h1, h2, q, h3, h4⟩
      have h4 := mem_edge.mp (of_decide_eq_true h4)
      exact ⟨⟨h1, q, h3, h4.1⟩, Option.isNone_iff_eq_none.mp h2⟩
    · rintro ⟨⟨h1, q, h3, h4⟩, h2⟩
      refine ⟨h1, Option.isNone_iff_eq_none.mpr h2, q, h3, decide_eq_true (mem_edge.mpr ⟨h4, dist_none.mpr fun j hj => ?_⟩)⟩
      have h5 := dist_none.mp h2 (j + 1) (by omega)
      cases h6 : rch ps al j q with
      | false => rfl
      | true =>
        rw [rch_succ.mpr ⟨h1, q, h3, h6⟩] at h5
        cases h5
theorem dist_succ {s p : Nat} : dist ps al (s + 1) p = if p ∈ edgeAt ps al s then some s else dist ps al s p := by
  by_cases h : p ∈ edgeAt ps al s
  · rw [if_pos h]
    have h1 := mem_edge.mp h
    exact dist_some.mpr ⟨by omega, h1.1, fun j hj => dist_none.mp h1.2 j hj⟩
  · rw [if_neg h]
    cases h1 : dist ps al s p with
    | some k =>
      have h2 := dist_some.mp h1
      exact dist_some.mpr ⟨by omega, h2.2⟩
    | none =>
      refine dist_none.mpr fun k hk => ?_
      by_cases e : k = s
      · subst e
        cases h2 : rch ps al k p with
        | false => rfl
        | true => exact absurd (mem_edge.mpr ⟨h2, h1⟩) h
      · exact dist_none.mp h1 k (by omega)
theorem stop_all {s : Nat} (h : edgeAt ps al s = []) : ∀ {k p : Nat}, rch ps al k p = true → dist ps al s p ≠ none := by
  have no : ∀ p, rch ps al s p = true → dist ps al s p ≠ none := fun p h1 h2 => by
    have := mem_edge.mpr ⟨h1, h2⟩
    rw [h] at this
    cases this
  intro k
  induction k with
  | zero =>
    intro p h1 h2
    by_cases e : s = 0
    · subst e
      exact no p h1 h2
    · rw [dist_none.mp h2 0 (by omega)] at h1
      cases h1
  | succ k ih =>
    intro p h1 h2
    obtain ⟨h3, q, h4, h5⟩ := rch_succ.mp h1
    cases h6 : dist ps al s q with
    | none => exact ih h5 h6
    | some j =>
      have h7 := dist_some.mp h6
      have h8 : rch ps al (j + 1) p = true := rch_succ.mpr ⟨h3, q, h4, h7.2.1⟩
      by_cases e : j + 1 = s
      · exact no p (e ▸ h8) h2
      · rw [dist_none.mp h2 (j + 1) (by omega)] at h8
        cases h8
theorem stop_same {s t : Nat} (h : edgeAt ps al s = []) (hst : s ≤ t) (p : Nat) : dist ps al t p = dist ps al s p := by
  cases h1 : dist ps al s p with
  | some k =>
    have h2 := dist_some.mp h1
    exact dist_some.mpr ⟨by omega, h2.2⟩
  | none =>
    refine dist_none.mpr fun k _ => ?_
    cases h2 : rch ps al k p with
    | false => rfl
    | true => exact absurd h1 (stop_all h h2)
theorem count_lt {p q : Nat → Bool} : ∀ {l : List Nat}, (∀ x ∈ l, p x = true → q x = true) → (∃ x ∈ l, q x = true ∧ p x = false) → l.countP p < l.countP q
  | [], _, h => by
    obtain ⟨x, hx, _⟩ := h
    cases hx
  | a :: l, h, h2 => by
    have le : l.countP p ≤ l.countP q := List.countP_mono_left fun x hx => h x (List.mem_cons_of_mem _ hx)
    rw [List.countP_cons, List.countP_cons]
    obtain ⟨x, hx, h3, h4⟩ := h2
    rcases List.mem_cons.mp hx with rfl | hx
    · rw [h3, h4]
      simp
      omega
    · have lt : l.countP p < l.countP q := count_lt (fun x hx => h x (List.mem_cons_of_mem _ hx)) ⟨x, hx, h3, h4⟩
      have := h a List.mem_cons_self
      cases hp : p a with
      | false =>
        rw [if_neg Bool.false_ne_true]
        omega
      | true =>
        rw [this hp]
        simp
        omega
theorem edge_lt {m : Nat} (h0 : 0 < m) (ha : ∀ p ∈ al, p < m) : ∀ {s p : Nat}, p ∈ edgeAt ps al s → p < m
  | 0, p, h => by
    rw [List.mem_singleton.mp h]
    exact h0
  | s + 1, p, h => ha p (List.mem_filter.mp h).1
theorem steps_le {m : Nat} (h0 : 0 < m) (ha : ∀ p ∈ al, p < m) : ∀ s, (∀ j, j < s → edgeAt ps al j ≠ []) → s + (List.range m).countP (fun p => (dist ps al s p).isNone) ≤ m
  | 0, _ => by
    have := List.countP_le_length (p := fun p => (dist ps al 0 p).isNone) (l := List.range m)
    rw [List.length_range] at this
    omega
  | s + 1, h => by
    have ih := steps_le h0 ha s fun j hj => h j (by omega)
    have lt : (List.range m).countP (fun p => (dist ps al (s + 1) p).isNone) < (List.range m).countP (fun p => (dist ps al s p).isNone) := by
      refine count_lt (fun x _ hx => ?_) ?_
      · have h1 := dist_none.mp (Option.isNone_iff_eq_none.mp hx)
        exact Option.isNone_iff_eq_none.mpr (dist_none.mpr fun k hk => h1 k (by omega))
      · obtain ⟨p, hp⟩ := List.exists_mem_of_ne_nil _ (h s (Nat.lt_succ_self s))
        refine ⟨p, List.mem_range.mpr (edge_lt h0 ha hp), Option.isNone_iff_eq_none.mpr (mem_edge.mp hp).2, ?_⟩
        rw [dist_succ, if_pos hp]
        rfl
    omega
theorem stops {m : Nat} (h0 : 0 < m) (ha : ∀ p ∈ al, p < m) : ∃ s, s ≤ m ∧ edgeAt ps al s = [] := by
  refine Classical.byContradiction fun h => ?_
  have := steps_le (ps := ps) h0 ha (m + 1) fun j hj e => h ⟨j, by omega, e⟩
  omega
theorem far_none {m p : Nat} (h0 : 0 < m) (ha : ∀ p ∈ al, p < m) : far m ps al p = none ↔ ∀ k, rch ps al k p = false := by
  obtain ⟨s, hs, he⟩ := stops (ps := ps) h0 ha
  unfold far
  rw [stop_same he hs]
  constructor
  · intro h k
    cases h1 : rch ps al k p with
    | false => rfl
    | true => exact absurd h (stop_all he h1)
  · intro h
    exact dist_none.mpr fun k _ => h k
theorem far_some {m p k : Nat} (h0 : 0 < m) (ha : ∀ p ∈ al, p < m) : far m ps al p = some k ↔ rch ps al k p = true ∧ ∀ j, j < k → rch ps al j p = false := by
  obtain ⟨s, hs, he⟩ := stops (ps := ps) h0 ha
  constructor
  · intro h
    exact (dist_some.mp h).2
  · rintro ⟨h1, h2⟩
    cases h3 : far m ps al p with
    | none =>
      rw [(far_none h0 ha).mp h3 k] at h1
      cases h1
    | some j =>
      have h4 := (dist_some.mp h3).2
      by_cases e : j < k
      · rw [h2 j e] at h4
        cases h4.1
      · by_cases e2 : k < j
        · rw [h4.2 k e2] at h1
          cases h1
        · rw [show j = k by omega]
end
/-! fewer pairs -/
def SubP (ps qs : PS) : Prop := ∀ p ∈ ps, p ∈ qs
theorem mem_row {ps : PS} {i n : Nat} : n ∈ rowOf ps i ↔ ∃ p ∈ ps, (p.1 = i ∧ n = p.2) ∨ (p.1 ≠ i ∧ p.2 = i ∧ n = p.1) := by
  unfold rowOf
  rw [List.mem_filterMap]
  constructor
  · rintro ⟨p, hp, h⟩
    refine ⟨p, hp, ?_⟩
    by_cases e : p.1 = i
    · rw [if_pos e] at h
      exact .inl ⟨e, (Option.some.inj h).symm⟩
    · rw [if_neg e] at h
      by_cases e2 : p.2 = i
      · rw [if_pos e2] at h
        exact .inr ⟨e, e2, (Option.some.inj h).symm⟩
      · rw [if_neg e2] at h
        cases h
  · rintro ⟨p, hp, ⟨e, rfl⟩ | ⟨e, e2, rfl⟩⟩
    · exact ⟨p, hp, if_pos e⟩
    · exact ⟨p, hp, by rw [if_neg e, if_pos e2]⟩
theorem row_sub {ps qs : PS} (h : SubP ps qs) {i n : Nat} (hn : n ∈ rowOf ps i) : n ∈ rowOf qs i := by
  obtain ⟨p, hp, r⟩ := mem_row.mp hn
  exact mem_row.mpr ⟨p, h p hp, r⟩
theorem clash_sub {ps qs : PS} (h : SubP ps qs) {i j : Nat} (hc : clash ps i j = true) : clash qs i j = true := by
  unfold clash adj touch at *
  rw [Bool.and_eq_true, Bool.or_eq_true, decide_eq_true_eq, List.any_eq_true] at *
  obtain ⟨h1, h2⟩ := hc
  refine ⟨h1, h2.imp (row_sub h) ?_⟩
  rintro ⟨x, hx, hy⟩
  exact ⟨x, row_sub h hx, decide_eq_true (row_sub h (of_decide_eq_true hy))⟩
theorem rch_sub {ps qs : PS} {al : List Nat} (h : SubP ps qs) : ∀ {k p : Nat}, rch ps al k p = true → rch qs al k p = true
  | 0, p, h1 => h1
  | k + 1, p, h1 => by
    obtain ⟨h2, q, h3, h4⟩ := rch_succ.mp h1
    exact rch_succ.mpr ⟨h2, q, row_sub h h3, rch_sub h h4⟩
theorem far_sub {ps qs : PS} {al : List Nat} {m p : Nat} (h0 : 0 < m) (ha : ∀ p ∈ al, p < m) (h : SubP ps qs) : (far m ps al p = none ∨ ∃ k j, far m ps al p = some k ∧ far m qs al p = some j ∧ j ≤ k) := by
  cases h1 : far m ps al p with
  | none => exact .inl rfl
  | some k =>
    have h2 := ((far_some h0 ha).mp h1).1
    have h3 := rch_sub h h2
    cases h4 : far m qs al p with
    | none =>
      rw [(far_none h0 ha).mp h4 k] at h3
      cases h3
    | some j =>
      refine .inr ⟨k, j, rfl, rfl, Nat.le_of_not_lt fun lt => ?_⟩
      rw [((far_some h0 ha).mp h4).2 k lt] at h3
      cases h3
end Wm
end
section
set_option Elab.async false
set_option linter.all false
set_option maxRecDepth 100000
set_option maxHeartbeats 4000000
namespace Lf
open PySem PySem.Spec PyProof.Rows L2
open Evl
def flat (ys : Nat → List V) (n : Nat) : List V := (List.range n).flatMap ys
theorem flat_succ (ys : Nat → List V) (n : Nat) : flat ys (n + 1) = flat ys n ++ ys n := by
  unfold flat
  rw [List.range_succ, List.flatMap_append, List.flatMap_singleton]
theorem flat_le (ys : Nat → List V) {c : Nat} (h : ∀ i, (ys i).length ≤ c) : ∀ n, (flat ys n).length ≤ n * c
  | 0 => Nat.zero_le _
  | n + 1 => by
    have h1 := flat_le ys h n
    have h2 := h n
    rw [flat_succ, List.length_append, Nat.succ_mul]
    omega
section
variable {K : PySem.W.Frag} {σ : L2.St} {H : Hp} {te : TE}
theorem el_lc2 {a : Addr} {xs : List V} {tl tl1 : TE} {j j1 c : Nat} {vs vs1 : List Nat} (ys : Nat → List V) (h : Ev tl σ H (.ref a)) (hx : SqL K H a xs) (hc : ∀ i, (ys i).length ≤ c) (hz : (xs.length + 1) * c ≤ 40000)
    (hw : ∀ x, wipe ((wipe σ vs).set j (some x)) vs = wipe σ vs) (hw1 : ∀ x y, wipe ((wipe ((wipe σ vs).set j (some x)) vs1).set j1 (some y)) vs1 = wipe ((wipe σ vs).set j (some x)) vs1)
    (h1 : ∀ (i : Nat) (x : V) H1, Ex H H1 → xs[i]? = some x → EvL tl1 ((wipe σ vs).set j (some x)) H1 (ys i))
    (he : ∀ (i : Nat) (x y : V) H1, Ex H H1 → xs[i]? = some x → y ∈ ys i → Ev te ((wipe ((wipe σ vs).set j (some x)) vs1).set j1 (some y)) H1 y) :
    EvL (tLc2 (iList K tl) (gName j) tYes (iList K tl1) (gName j1) tYes te vs vs1) σ H (flat ys xs.length) := by
  intro H0 e Q q
  refine h H0 e _ fun H1 e1 => ⟨a, rfl, ⟨xs, ex_l (e.trans e1) hx⟩, fun D hD => ?_⟩
  refine ⟨fun i m H' => m = xs.length - i ∧ i ≤ xs.length ∧ Ex H1 H' ∧ H' D = some (.lst (flat ys i)), ⟨xs.length, by simp, Nat.zero_le _, Ex.new hD, upd_same⟩, ?_⟩
  rintro i m H' ⟨rfl, hi, p2, p3⟩
  have sx : SqL K H' a xs := ex_l ((e.trans e1).trans p2) hx
  by_cases hlt : i < xs.length
  · refine .inr ⟨⟨xs, xs[i], sx, by simp [hlt]⟩, fun H'' => Ex H1 H'' ∧ H'' D = some (.lst (flat ys (i + 1))), fun H'' p' => ⟨xs.length - (i + 1), by omega, rfl, hlt, p'⟩, fun x Hy y => ?_⟩
    obtain ⟨e2, y⟩ := y
    subst e2
    have hxi := y xs sx
    refine ⟨hw x, yes_ok _ (Ex.refl _) _ fun H3 e3 => ?_⟩
    rw [if_pos rfl]
    refine h1 i x H3 (((e.trans e1).trans p2).trans e3) hxi H3 (Ex.refl _) _ fun L H4 l0 e4 hl => ⟨L, rfl, ⟨_, sq_of hl⟩, ?_⟩
    have nDL : D ≠ L := fun z => by rw [← z, e3 _ _ p3] at l0; cases l0
    refine ⟨fun j' k H'' => k = (ys i).length - j' ∧ j' ≤ (ys i).length ∧ Ex H1 H'' ∧ H'' D = some (.lst (flat ys i ++ (ys i).take j')) ∧ H'' L = some (.lst (ys i)), ⟨(ys i).length, by simp, Nat.zero_le _, (p2.trans e3).trans e4, ?_, hl⟩, ?_⟩
    · rw [List.take_zero, List.append_nil]
      exact e4 _ _ (e3 _ _ p3)
    · rintro j' k H'' ⟨rfl, hj, q1, q2, q3⟩
      by_cases hlj : j' < (ys i).length
      · refine .inr ⟨⟨_, (ys i)[j'], sq_of q3, by simp [hlj]⟩, fun H5 => Ex H1 H5 ∧ H5 D = some (.lst (flat ys i ++ (ys i).take (j' + 1))) ∧ H5 L = some (.lst (ys i)), fun H5 p' => ⟨(ys i).length - (j' + 1), by omega, rfl, hlj, p'⟩, fun z Hz w => ?_⟩
        obtain ⟨e5, w⟩ := w
        subst e5
        have hz1 := w _ (sq_of q3)
        refine ⟨hw1 x z, yes_ok _ (Ex.refl _) _ fun H6 e6 => ?_⟩
        rw [if_pos rfl]
        refine he i x z H6 (((e.trans e1).trans q1).trans e6) hxi (List.mem_of_getElem? hz1) H6 (Ex.refl _) _ fun H7 e7 => ⟨_, e7 _ _ (e6 _ _ q2), ?_, Ex.mut ((q1.trans e6).trans e7) hD, ?_, ?_⟩
        · have l1 := flat_le ys hc i
          have l2 := hc i
          have l3 : i * c ≤ xs.length * c := Nat.mul_le_mul_right c hi
          rw [Nat.succ_mul] at hz
          refine sz_lt ?_
          rw [List.length_append, List.length_take]
          omega
        · rw [upd_same, List.append_assoc, List.take_add_one, hz1]
          rfl
        · rw [upd_ne nDL.symm]
          exact e7 _ _ (e6 _ _ q3)
      · have ej : j' = (ys i).length := by omega
        subst ej
        refine .inl ⟨⟨_, sq_of q3, Nat.le_refl _⟩, q1, ?_⟩
        rw [q2, List.take_length, flat_succ]
  · have ei : i = xs.length := by omega
    subst ei
    exact .inl ⟨⟨xs, sx, Nat.le_refl _⟩, q D _ (fresh_back e1 hD) (e1.trans p2) p3⟩
theorem et_tr {p : Addr} {xs : List V} (h : Ev te σ H (.ref p)) (hx : ∀ H1, Ex H H1 → SqL K H1 p xs) : EvT (tTr K te) σ H (!xs.isEmpty) := fun H1 e Q q => h H1 e _ fun H2 e2 => ⟨!xs.isEmpty, .inl ⟨xs, hx H2 (e.trans e2), rfl⟩, q H2 e2⟩
theorem flat_rep {v : V} : ∀ n : Nat, (List.replicate n [v]).flatten = List.replicate n v
  | 0 => rfl
  | n + 1 => by
    rw [List.replicate_succ, List.replicate_succ, List.flatten_cons, flat_rep n]
    rfl
theorem el_rep {tn : TE} {v : V} {n : Nat} (h : Ev te σ H v) (hn : Ev tn σ H (.int (n : Int))) (hz : n ≤ 40000) : EvL (tOp rRep (tLst (tCons te tNil)) tn) σ H (List.replicate n v) := fun H1 e Q q =>
  h H1 e _ fun H2 e2 => ⟨by show 1 ≤ sizeLine; decide, fun p hp => hn _ ((e.trans e2).trans (Ex.new hp)) _ fun H3 e3 => ⟨p, (n : Int), [v], rfl, rfl, e3 _ _ upd_same, by omega, by omega, by
    rw [Int.toNat_natCast]
    have : 40000 ≤ sizeLine := by decide
    show 1 * n ≤ sizeLine
    omega, fun p2 hp2 => q p2 _ (fresh_back e2 (fresh_back (Ex.new hp) (fresh_back e3 hp2))) (((e2.trans (Ex.new hp)).trans e3).trans (Ex.new hp2)) (by
    rw [upd_same, Int.toNat_natCast]
    rw [flat_rep])⟩⟩
end
end Lf
namespace Wm
open PySem PySem.Spec PyProof.Rows L2 Lf
open Evl
def oV : Option Nat → V
  | none => .non
  | some k => .int (k : Int)
def oD : Option Nat → PyData
  | none => .none
  | some k => .int (k : Int)
theorem oV_non (o : Option Nat) : decide (oV o = .non) = o.isNone := by
  cases o <;> rfl
def toldV (m : Nat) (ps : PS) (al : List Nat) (s : Nat) : List V := (List.range m).map fun x => oV (dist ps al s x)
def midV (m : Nat) (ps : PS) (al : List Nat) (s i : Nat) : List V := (List.range m).map fun x => oV (if x ∈ (edgeAt ps al s).take i then some s else dist ps al s x)
def farV (m : Nat) (ps : PS) (al : List Nat) : List V := (List.range m).map fun x => oV (far m ps al x)
section
variable {m : Nat} {ps : PS} {al : List Nat} {s : Nat}
theorem told_len : (toldV m ps al s).length = m := by
  unfold toldV
  rw [List.length_map, List.length_range]
theorem mid_len {i : Nat} : (midV m ps al s i).length = m := by
  unfold midV
  rw [List.length_map, List.length_range]
theorem far_len : (farV m ps al).length = m := by
  unfold farV
  rw [List.length_map, List.length_range]
theorem far_get {x : Nat} (h : x < m) : (farV m ps al)[x]? = some (oV (far m ps al x)) := by
  unfold farV
  rw [List.getElem?_map, List.getElem?_range h]
  rfl
theorem told_get {x : Nat} (h : x < m) : (toldV m ps al s)[x]? = some (oV (dist ps al s x)) := by
  unfold toldV
  rw [List.getElem?_map, List.getElem?_range h]
  rfl
theorem told_zero : toldV m ps al 0 = List.replicate m V.non := by
  unfold toldV
  refine List.ext_getElem? fun i => ?_
  by_cases h : i < m
  · rw [List.getElem?_map, List.getElem?_range h, List.getElem?_replicate, if_pos h]
    rfl
  · rw [List.getElem?_eq_none (by rw [List.length_map, List.length_range]; omega), List.getElem?_eq_none (by rw [List.length_replicate]; omega)]
theorem mid_zero : midV m ps al s 0 = toldV m ps al s := by
  unfold midV toldV
  refine List.map_congr_left fun x _ => ?_
  rw [List.take_zero, if_neg (fun h => nomatch h)]
theorem mid_all : midV m ps al s (edgeAt ps al s).length = toldV m ps al (s + 1) := by
  unfold midV toldV
  refine List.map_congr_left fun x _ => ?_
  rw [List.take_length, dist_succ]
theorem mid_step {i n : Nat} (hi : (edgeAt ps al s)[i]? = some n) (hn : n < m) : (midV m ps al s i).set n (.int (s : Int)) = midV m ps al s (i + 1) := by
  unfold midV
  rw [set_range _ _ _ _ hn]
  refine List.map_congr_left fun x _ => ?_
  rw [List.take_add_one, hi]
  by_cases e : n = x
  · subst e
    rw [if_pos rfl, if_pos (List.mem_append_right _ (by exact List.mem_singleton.mpr rfl))]
    rfl
  · rw [if_neg e]
    congr 1
    by_cases h : x ∈ (edgeAt ps al s).take i
    · rw [if_pos h, if_pos (List.mem_append_left _ h)]
    · rw [if_neg h, if_neg]
      intro h2
      rcases List.mem_append.mp h2 with h2 | h2
      · exact h h2
      · exact e (List.mem_singleton.mp h2).symm
theorem told_end (h : edgeAt ps al s = []) (hs : s ≤ m) : toldV m ps al s = farV m ps al := by
  unfold toldV farV
  refine List.map_congr_left fun x _ => ?_
  unfold far
  rw [stop_same h hs]
end
end Wm
namespace Wm
open PySem PySem.Spec PyProof.Rows L2 Lf
open Evl
def risesN (cs : List Nat) : Bool := ((List.range (cs.length - 1)).map fun i => decide (cs.getD i 0 < cs.getD (i + 1) 0)).all id
def cutHolds (ps : PS) (al cs : List Nat) : Bool := !((cs.any fun x => decide (x = 0) || !decide (x ∈ al)) || !risesN cs) && (cs.flatMap (rowOf ps)).all fun n => decide (n ∈ cs) || !decide (n ∈ al)
theorem flat_rows (ps : PS) (cs : List Nat) : flat (fun i => vN (rowOf ps (cs.getD i 0))) cs.length = vN (cs.flatMap (rowOf ps)) := by
  unfold flat vN
  rw [List.map_flatMap]
  have e : cs = (List.range cs.length).map fun i => cs.getD i 0 := by
    refine List.ext_getElem? fun i => ?_
    by_cases q : i < cs.length
    · rw [List.getElem?_map, List.getElem?_range q, List.getElem?_eq_getElem q]
      show _ = some (cs.getD i 0)
      rw [List.getD_eq_getElem?_getD, List.getElem?_eq_getElem q]
      rfl
    · rw [List.getElem?_eq_none (by omega), List.getElem?_eq_none (by rw [List.length_map, List.length_range]; omega)]
  conv => rhs; rw [e]
  rw [List.flatMap_map]
theorem all_getD {b : List Nat} (f : Nat → Bool) : b.all f = (List.range b.length).all fun j => f (b.getD j 0) := by
  have h := any_getD (b := b) fun x => !f x
  rw [List.all_eq_not_any_not, h, List.all_eq_not_any_not]
theorem rises_of {cs : List Nat} (h : cs.Pairwise (· < ·)) : risesN cs = true := by
  unfold risesN
  rw [List.all_map, List.all_eq_true]
  intro i hi
  have hi := List.mem_range.mp hi
  have h1 : i < cs.length := by omega
  have h2 : i + 1 < cs.length := by omega
  show decide (cs.getD i 0 < cs.getD (i + 1) 0) = true
  rw [List.getD_eq_getElem?_getD, List.getD_eq_getElem?_getD, List.getElem?_eq_getElem h1, List.getElem?_eq_getElem h2]
  exact decide_eq_true (List.pairwise_iff_getElem.mp h i (i + 1) h1 h2 (Nat.lt_succ_self i))
end Wm
end
section
set_option Elab.async false
set_option linter.all false
set_option maxRecDepth 100000
set_option maxHeartbeats 4000000
/-! Ls: targets with a star, a tuple unpacked. -/
namespace Lf
open PySem PySem.Spec PyProof.Rows L2
open Evl
section
variable {prog : Program} {w : World} {A : Around} {E : Value → Shared → Prop} {I : Addr} {fp wr : List Addr} {G : Array GenState → Array GenState → Prop} {n : Nat} {P : Nat → Value → Prop} {St : Nat → Shared → Prop}
theorem walks_shift (W : WalksS prog w A I fp wr G n P St) (i : Nat) (hi : i ≤ n) : WalksS prog w A I fp wr G (n - i) (fun j => P (i + j)) (fun j => St (i + j)) where
  sub := W.sub
  grefl := W.grefl
  gtrans := W.gtrans
  frame := fun j s h' tk => W.frame (i + j) s h' tk
  item := fun j s Q E hj st hQ => W.item (i + j) s Q E (by omega) st fun v s' hp hs m => hQ v s' hp (by rw [← Nat.add_assoc]; exact hs) m
  done := fun s Q E st hQ => W.done s Q E (by rw [show i + (n - i) = n by omega] at st; exact st) hQ
  self := fun j s Q E st hQ => W.self (i + j) s Q E st hQ
theorem draw_walk (W : WalksS prog w A I fp wr G n P St) : ∀ (m i : Nat) (s : Shared) (Q : List Value → Shared → Prop), St i s → i + m ≤ n → (∀ out s', Moved wr G s s' → St (i + m) s' → out.length = m → (∀ j v, out[j]? = some v → P (i + j) v) → Q out s') → wpAny (model prog w) A (draw (.ref I) m) Q E s
  | 0, i, s, Q, st, _, h => by
    show wpAny _ _ (pure []) Q E s
    exact wpAny_pure (h [] s (Moved.refl W.grefl) st rfl fun j v hj => by simp at hj)
  | m + 1, i, s, Q, st, hle, h => by
    show wpAny _ _ (pyNext (.ref I) >>= _) Q E s
    refine wpAny_bind (W.item i s _ _ (by omega) st fun v s1 hp st1 m1 => ?_)
    refine wpAny_bind (wpAny_holding (draw_walk W m (i + 1) s1 _ st1 (by omega) fun out s2 m2 st2 hl hv => wpAny_pure ?_))
    refine h (v :: out) s2 (Moved.trans W.gtrans m1 m2) (by rw [show i + (m + 1) = i + 1 + m by omega]; exact st2) (by rw [List.length_cons, hl]) fun j u hj => ?_
    cases j with
    | zero => simp at hj; subst hj; exact hp
    | succ j =>
      have := hv j u (by simpa using hj)
      rw [show i + (j + 1) = i + 1 + j by omega]
      exact this
theorem out_eq {vs : Array Value} {out : List Value} {i m : Nat} (hl : out.length = m) (hle : i + m ≤ vs.size) (h : ∀ j v, out[j]? = some v → vs[i + j]? = some v) : out = (vs.toList.drop i).take m := by
  refine List.ext_getElem? fun j => ?_
  by_cases hj : j < m
  · have e : out[j]? = some out[j] := List.getElem?_eq_getElem (by omega)
    have := h j _ e
    rw [e, List.getElem?_take, if_pos hj, List.getElem?_drop, Array.getElem?_toList]
    exact this.symm
  · rw [List.getElem?_eq_none (by omega), List.getElem?_eq_none]
    rw [List.length_take, List.length_drop, Array.length_toList]
    omega
theorem unpack_star {s : Shared} {t : Addr} {vs : Array Value} {m i : Nat} {Q : List Value → Shared → Prop} (hh : A.handled = none) (ht : s.heap.IsTuple t vs) (hi : i < m) (hsz : m - 1 ≤ vs.size) (hz : vs.size ≤ sizeLine)
    (h : ∀ (h' : Heap) (tk : Nat), (∀ b o, s.heap.get? b = some o → h'.get? b = some o) → Q (vs.toList.take i ++ [.ref h'.objs.size] ++ vs.toList.drop (vs.size - (m - 1 - i))) { s with heap := h'.push { cls := .type "list", data := .seq ((vs.toList.drop i).take (vs.size - (m - 1))).toArray }, toks := tk }) :
    wpAny (model prog w) A (unpackItems (.ref t) m (some i)) Q E s := by
  unfold unpackItems
  refine wpAny_bind ?_
  · unfold notIterableAtAll
    have hT : s.TypeIs (.ref t) "tuple" := let ⟨o, ho, hc, _⟩ := ht; ⟨o, ho, hc⟩
    refine wpAny_bind (wpAny_specialOf hT slot_tuple_iter.lookup ?_)
    refine wpAny_pure ?_
    simp only [Bool.false_eq_true, if_false]
    refine wpAny_bind (wpAny_holding (PySem.W.iter_tupleW (A := A) hh ht fun s2 e2 W st hfp hw hk => ?_))
    refine wpAny_bind (wpAny_holding (draw_walk W i 0 s2 _ st (by omega) fun out s3 m3 st3 hl hv => ?_))
    have eo := out_eq (vs := vs) (i := 0) hl (by omega) (fun j v hj => by have := hv j v hj; exact this)
    rw [if_neg (by omega)]
    have hlt : t ≠ s.heap.objs.size := by obtain ⟨o, ho, _⟩ := ht; exact Nat.ne_of_lt (Heap.lt_size ho)
    have W1 : WalksS prog w A.in1 s.heap.objs.size [s.heap.objs.size, t] [s.heap.objs.size] (fun a b => b = a) vs.size (fun i v => vs[i]? = some v) (fun i s' => s'.heap.IsTupleIter s.heap.objs.size t i ∧ s'.heap.IsTuple t vs) := (Walks.tuple (A := A.in1) hh s.heap.objs.size t hlt vs).toS
    have W2 := walks_shift W1 i (by omega)
    refine wpAny_bind (wpAny_holding (wpAny_collect_iter (T := "tuple_iterator") (.inr (.inr (.inr rfl))) W2 (fun j s' hs => let ⟨o, ho, hc, _⟩ := hs.1; ⟨o, ho, hc⟩) (by rw [Nat.zero_add] at st3; exact st3) (fun b hb => ?_) (by simp) (fun s4 acc m4 hacc => ?_) (by omega)))
    · obtain ⟨⟨o, ho, _⟩, ⟨o2, ho2, _⟩⟩ := st3
      rcases List.mem_cons.mp hb with rfl | hb
      · exact Heap.lt_size ho
      · rw [List.mem_singleton.mp hb]
        exact Heap.lt_size ho2
    · have ea := out_eq (vs := vs) (i := i) (out := acc.toList) (m := vs.size - i) (by rw [Array.length_toList]; exact hacc.1) (by omega) (fun j v hj => hacc.2 j v (by rw [← Array.getElem?_toList]; exact hj))
      have er : acc.toList = vs.toList.drop i := by
        rw [ea]
        exact List.take_of_length_le (by rw [List.length_drop, Array.length_toList]; omega)
      have elen : acc.toList.length = vs.size - i := by rw [er, List.length_drop, Array.length_toList]
      rw [if_neg (by omega)]
      obtain ⟨h', tk, rfl, hk'⟩ := PySem.W.moved_old e2 rfl (Moved.trans (fun a b c h1 h2 => h2.trans h1) m3 m4)
      refine wpAny_bind (wpAny_newObj_type ?_ (by
        show _ ≤ sizeLine
        rw [List.size_toArray, List.length_take]
        omega))
      refine wpAny_pure ?_
      have := h h' tk hk'
      have e1 : out = vs.toList.take i := by rw [eo]; rfl
      have e3 : acc.toList.length - (m - 1 - i) = vs.size - (m - 1) := by omega
      have e4 : acc.toList.drop (acc.toList.length - (m - 1 - i)) = vs.toList.drop (vs.size - (m - 1 - i)) := by
        rw [er, List.drop_drop, List.length_drop, Array.length_toList]
        congr 1
        omega
      rw [e1, e4, e3, er]
      exact this
theorem assign_star {s : Shared} {env : Env} {elts : List Expr} {x1} {pos : Pos} {t : Addr} {vs : Array Value} {m i : Nat} {Q : Unit → Shared → Prop} (hh : A.handled = none) (ht : s.heap.IsTuple t vs) (hn : (assignEach elts env).length = m) (hst : (assignEach elts env).findIdx? (·.1) = some i) (hi : i < m) (hsz : m - 1 ≤ vs.size) (hz : vs.size ≤ sizeLine)
    (h : ∀ (h' : Heap) (tk : Nat), (∀ b o, s.heap.get? b = some o → h'.get? b = some o) → wpAny (model prog w) A (assignInOrder ((assignEach elts env).map (·.2)) (vs.toList.take i ++ [.ref h'.objs.size] ++ vs.toList.drop (vs.size - (m - 1 - i)))) Q E { s with heap := h'.push { cls := .type "list", data := .seq ((vs.toList.drop i).take (vs.size - (m - 1))).toArray }, toks := tk }) :
    wpAny (model prog w) A (assign (.Tuple elts x1 pos) env (.ref t)) Q E s := by
  rw [assign_Tuple]
  refine wpAny_bind (wpAny_standAt ?_)
  unfold unpack
  rw [hn, hst]
  exact wpAny_bind (wpAny_holding (unpack_star hh ht hi hsz hz h))
end
section
variable {X : Cx} {e : Expr} {es : List Expr} {t : TG} {u : TGs} {p pos : Pos} {K : PySem.W.Frag}
/-- .. , *name, .. -/
theorem pgs_star (h1 : PG X e t) (h2 : PGs X es u) (hs : (assignEach (.Starred e p :: es) X.env).map (·.2) = assign e X.env :: (assignEach es X.env).map (·.2) := by rfl) : PGs X (.Starred e p :: es) (gCons t u) := by
  refine ⟨fun pins s σ H vs us Q I r h => ?_⟩
  obtain ⟨v, vr, e1, h⟩ := h
  subst e1
  cases r with
  | cons r rr =>
    rw [hs]
    refine assignInOrder_cons (thn (h1.run pins s σ H _ _ _ I r h) fun _ s1 ⟨σ1, H1, I1, q1⟩ => ?_)
    exact h2.run pins s1 σ1 H1 _ _ Q I1 rr q1
/-- a, *b, c = a tuple: m targets, the i-th with the star -/
def gStar (K : PySem.W.Frag) (m i : Nat) (t : TGs) : TG := fun v σ H Q => ∃ a xs, v = .ref a ∧ SqT K H a xs ∧ m - 1 ≤ xs.length ∧ ∀ l, H l = none → t (xs.take i ++ [.ref l] ++ xs.drop (xs.length - (m - 1 - i))) σ (upd H l (.lst ((xs.drop i).take (xs.length - (m - 1))))) Q
theorem vals_take {xs : List V} {us : List Value} (r : Vals xs us) (n : Nat) : Vals (xs.take n) (us.take n) := by
  induction r generalizing n with
  | nil => simp; exact .nil
  | cons h t ih =>
    cases n with
    | zero => exact .nil
    | succ n => exact .cons h (ih n)
theorem vals_drop {xs : List V} {us : List Value} (r : Vals xs us) (n : Nat) : Vals (xs.drop n) (us.drop n) := by
  induction r generalizing n with
  | nil => simp; exact .nil
  | cons h t ih =>
    cases n with
    | zero => exact .cons h t
    | succ n => exact ih n
theorem pg_star {kk m i : Nat} {t : TGs} (k : X.K = K) (hc : X.calm = true) (h : PGs X es t) (hn : (assignEach es X.env).length = m := by rfl) (hst : (assignEach es X.env).findIdx? (·.1) = some i := by rfl) (hi : i < m := by decide) : PG X (.Tuple es kk pos) (gStar K m i t) := by
  subst k
  refine ⟨fun pins s σ H v u Q I r hw => ?_⟩
  obtain ⟨a, xs, e1, hq, hl, hw⟩ := hw
  subst e1
  cases r
  obtain ⟨its, rv, ht, hz⟩ := I.tuple hq
  have el := rv.length
  have ht2 : s.heap.IsTuple a its.toArray := ht
  refine assign_star (I.ok.hd hc) ht2 hn hst hi (by rw [List.size_toArray, ← el]; exact hl) (by rw [List.size_toArray, ← el]; exact hz) fun h' tk hk => ?_
  have I1 : Inv X pins σ H { s with heap := h', toks := tk } := I.kept (t' := tk) hk
  have hp := I1.hok.fresh (Nat.le_refl h'.objs.size)
  have I2 : Inv X pins σ (upd H h'.objs.size (.lst ((xs.drop i).take (xs.length - (m - 1))))) { s with heap := h'.push { cls := .type "list", data := .seq ((its.toArray.toList.drop i).take (its.toArray.size - (m - 1))).toArray }, toks := tk } := by
    refine I1.laid (t' := tk) (a := h'.objs.size) (fun b o e => Heap.get?_push_of_some _ e) (Nat.le_refl _) ?_
    refine ⟨?_, (its.drop i).take (its.length - (m - 1)), 0, ?_, ?_⟩
    · rw [List.length_take, List.length_drop]
      omega
    · rw [el]
      exact vals_take (vals_drop rv i) _
    · show (h'.push _).get? _ = _
      rw [Heap.get?_push_size _ rfl]
      rw [List.size_toArray]
  have r1 : Vals [V.ref h'.objs.size] [Value.ref h'.objs.size] := .cons rfl .nil
  have r2 := ((vals_take rv i).append r1).append (vals_drop rv (xs.length - (m - 1 - i)))
  have es2 : its.toArray.size = xs.length := by rw [List.size_toArray, el]
  rw [← es2] at r2
  exact h.run pins _ σ _ _ _ Q I2 (by rw [← es2]; exact r2) (hw _ hp)
end
end Lf
end
section
set_option Elab.async false
set_option linter.all false
set_option maxRecDepth 100000
set_option maxHeartbeats 4000000
namespace K62
local macro_rules | `(tactic| walk_at "pos") => `(tactic| (show (0 : Int) < _; first | decide | omega))
open PySem PySem.Spec PyProof.Rows L2 Lf 
open Evl
local macro_rules | `(tactic| walk_at "lk") => `(tactic| (simp (disch := decide +kernel) only [lk_hit, lk_miss, lk_nil]))
local macro_rules | `(tactic| walk_at "pf") => `(tactic| (simp (disch := decide +kernel) only [pf_hit, pf_miss, pf_nil]))
def topS (i : Nat) : Stmt := PySem.Challenge.pw_listenfield_k62_windows_by_turns.main.body.getD i (.Pass ⟨0, 0, 0, 0⟩)
abbrev s_number_of : Stmt := topS 1
abbrev ns_number_of : List Str := ["thing", "ahead", "behind"]
theorem sc_number_of : FnScope ns_number_of ["thing"] (defScope s_number_of) := ⟨rfl, rfl, rfl, by decide +kernel, rfl, by decide +kernel, by decide +kernel⟩
abbrev s_numbers_in : Stmt := topS 2
abbrev ns_numbers_in : List Str := ["things", "thing"]
theorem sc_numbers_in : FnScope ns_numbers_in ["things"] (defScope s_numbers_in) := ⟨rfl, rfl, rfl, by decide +kernel, rfl, by decide +kernel, by decide +kernel⟩
abbrev s_windows_of : Stmt := topS 4
abbrev ns_windows_of : List Str := ["question", "turn", "_", "first", "every", "length", "ahead", "begun", "ended"]
theorem sc_windows_of : FnScope ns_windows_of ["question", "turn"] (defScope s_windows_of) := ⟨rfl, rfl, rfl, by decide +kernel, rfl, by decide +kernel, by decide +kernel⟩
abbrev s_closes : Stmt := topS 5
abbrev ns_closes : List Str := ["question", "window", "_", "first", "every", "length", "lag"]
theorem sc_closes : FnScope ns_closes ["question", "window"] (defScope s_closes) := ⟨rfl, rfl, rfl, by decide +kernel, rfl, by decide +kernel, by decide +kernel⟩
abbrev s_closing : Stmt := topS 6
abbrev ns_closing : List Str := ["question", "turn", "window", "rest"]
theorem sc_closing : FnScope ns_closing ["question", "turn"] (defScope s_closing) := ⟨rfl, rfl, rfl, by decide +kernel, rfl, by decide +kernel, by decide +kernel⟩
abbrev s_over : Stmt := topS 7
abbrev ns_over : List Str := ["question", "turn", "window", "_"]
theorem sc_over : FnScope ns_over ["question", "turn"] (defScope s_over) := ⟨rfl, rfl, rfl, by decide +kernel, rfl, by decide +kernel, by decide +kernel⟩
abbrev s_since_closing : Stmt := topS 8
abbrev ns_since_closing : List Str := ["question", "turn", "_", "every"]
theorem sc_since_closing : FnScope ns_since_closing ["question", "turn"] (defScope s_since_closing) := ⟨rfl, rfl, rfl, by decide +kernel, rfl, by decide +kernel, by decide +kernel⟩
abbrev s_plain_question : Stmt := topS 9
abbrev ns_plain_question : List Str := ["question", "number", "terms_of", "terms"]
theorem sc_plain_question : FnScope ns_plain_question ["question"] (defScope s_plain_question) := ⟨rfl, rfl, rfl, by decide +kernel, rfl, by decide +kernel, by decide +kernel⟩
abbrev s_plain_terms : Stmt := topS 10
abbrev ns_plain_terms : List Str := ["terms_of", "sort", "places", "first", "every", "length", "lag", "asked"]
theorem sc_plain_terms : FnScope ns_plain_terms ["terms_of"] (defScope s_plain_terms) := ⟨rfl, rfl, rfl, by decide +kernel, rfl, by decide +kernel, by decide +kernel⟩
abbrev s_lw_bag : Stmt := topS 12
abbrev ns_lw_bag : List Str := ["_law_script", "_law_cell"]
theorem sc_lw_bag : FnScope ns_lw_bag ["_law_script"] (defScope s_lw_bag) := ⟨rfl, rfl, rfl, by decide +kernel, rfl, by decide +kernel, by decide +kernel⟩
abbrev s_lw_take : Stmt := topS 13
abbrev ns_lw_take : List Str := ["_law_bag_here", "_law_many", "_law_cell", "_law_value", "_law_first", "_law_second"]
theorem sc_lw_take : FnScope ns_lw_take ["_law_bag_here", "_law_many"] (defScope s_lw_take) := ⟨rfl, rfl, rfl, by decide +kernel, rfl, by decide +kernel, by decide +kernel⟩
abbrev s_lw_places : Stmt := topS 14
abbrev ns_lw_places : List Str := ["_law_bag_here", "_law_some", "_law_place"]
theorem sc_lw_places : FnScope ns_lw_places ["_law_bag_here"] (defScope s_lw_places) := ⟨rfl, rfl, rfl, by decide +kernel, rfl, by decide +kernel, by decide +kernel⟩
abbrev s_lw_terms : Stmt := topS 15
abbrev ns_lw_terms : List Str := ["_law_bag_here", "_law_first", "_law_every", "_law_length", "_law_lag"]
theorem sc_lw_terms : FnScope ns_lw_terms ["_law_bag_here", "_law_first"] (defScope s_lw_terms) := ⟨rfl, rfl, rfl, by decide +kernel, rfl, by decide +kernel, by decide +kernel⟩
abbrev s_lw_same : Stmt := topS 16
abbrev ns_lw_same : List Str := ["_law_found", "_law_due"]
theorem sc_lw_same : FnScope ns_lw_same ["_law_found", "_law_due"] (defScope s_lw_same) := ⟨rfl, rfl, rfl, by decide +kernel, rfl, by decide +kernel, by decide +kernel⟩
abbrev s_lw_turn_right : Stmt := topS 17
abbrev ns_lw_turn_right : List Str := ["_law_question", "_law_turn", "_law_rows", "_law_within", "_law_shut", "_law_gone", "_law_again", "_law_found", "_law_shut_now", "_law_w", "_law_turns", "_law_last"]
theorem sc_lw_turn_right : FnScope ns_lw_turn_right ["_law_question", "_law_turn", "_law_rows"] (defScope s_lw_turn_right) := ⟨rfl, rfl, rfl, by decide +kernel, rfl, by decide +kernel, by decide +kernel⟩
abbrev s_law : Stmt := topS 18
abbrev ns_law : List Str := ["_law_script", "_law_bag_here", "_law_turn", "_law_question", "_law_number", "_law_sort", "_law_places_here", "_law_first", "_law_every", "_law_length", "_law_lag", "_law_rows", "_law_w", "_law_turns", "_law_last", "_law_k", "_law_far", "_law_shut"]
theorem sc_law : FnScope ns_law ["_law_script"] (defScope s_law) := ⟨rfl, rfl, rfl, by decide +kernel, rfl, by decide +kernel, by decide +kernel⟩
structure Top (K : PySem.W.Frag) (mg : Str → Option Value) : Prop where
  n_abs : mg "abs" = none
  n_bool : mg "bool" = none
  n_divmod : mg "divmod" = none
  n_int : mg "int" = none
  n_isinstance : mg "isinstance" = none
  n_len : mg "len" = none
  n_list : mg "list" = none
  n_max : mg "max" = none
  n_min : mg "min" = none
  n_range : mg "range" = none
  n_repr : mg "repr" = none
  n_tuple : mg "tuple" = none
  d_number_of : Df K mg "number_of" s_number_of ["thing"]
  d_numbers_in : Df K mg "numbers_in" s_numbers_in ["things"]
  d_windows_of : Df K mg "windows_of" s_windows_of ["question", "turn"]
  d_closes : Df K mg "closes" s_closes ["question", "window"]
  d_closing : Df K mg "closing" s_closing ["question", "turn"]
  d_over : Df K mg "over" s_over ["question", "turn"]
  d_since_closing : Df K mg "since_closing" s_since_closing ["question", "turn"]
  d_plain_question : Df K mg "plain_question" s_plain_question ["question"]
  d_plain_terms : Df K mg "plain_terms" s_plain_terms ["terms_of"]
  d_lw_bag : Df K mg "_law_bag" s_lw_bag ["_law_script"]
  d_lw_take : Df K mg "_law_take" s_lw_take ["_law_bag_here", "_law_many"]
  d_lw_places : Df K mg "_law_places" s_lw_places ["_law_bag_here"]
  d_lw_terms : Df K mg "_law_terms" s_lw_terms ["_law_bag_here", "_law_first"]
  d_lw_same : Df K mg "_law_same" s_lw_same ["_law_found", "_law_due"]
  d_lw_turn_right : Df K mg "_law_turn_right" s_lw_turn_right ["_law_question", "_law_turn", "_law_rows"]
end K62
end
section
set_option Elab.async false
set_option linter.all false
set_option maxRecDepth 100000
set_option maxHeartbeats 4000000
namespace K62
local macro_rules | `(tactic| walk_at "pos") => `(tactic| (show (0 : Int) < _; first | decide | omega))
open PySem PySem.Spec PyProof.Rows L2 Lf 
open Evl
local macro_rules | `(tactic| walk_at "lk") => `(tactic| (simp (disch := decide +kernel) only [lk_hit, lk_miss, lk_nil]))
local macro_rules | `(tactic| walk_at "pf") => `(tactic| (simp (disch := decide +kernel) only [pf_hit, pf_miss, pf_nil]))
section
variable {P : Program} {w : World} {K : PySem.W.Frag} {mg : Str → Option Value} {base : Heap} (T : Top K mg )
include T
theorem c_lw_take : Cal P w K mg base CX0 1 "_law_take" spTk := by
  refine T.d_lw_take.cal sc_lw_take (fun vs H Q E h => ?_) (fun f cdv A outer s H vs Q E g hr h => ?_)
  · obtain ⟨b, many, rfl, _⟩ := h
    rfl
  · obtain ⟨⟨b, c⟩, many, rfl, ⟨x, y, z, ns, hb, hc, hx, ⟨hy, hy2⟩, hz, hn⟩, ⟨hm, hm2⟩, k⟩ := h
    refine ⟨_, (C8.pss_cut (ps_if (pt_cmpR op_eq (pe_ix (kix (K := K) (r := rIxL) ix_list rfl) (pv 0) pe_int (fun _ _ => rfl)) pe_int (nomark _)) (pss_cons (ps_set (i := 2) sc_lw_take.nd rfl (Or.inl rfl) pe_int)
        (C8.pss_cut (ps_if (pt_cmpR op_lt (pe_ix (kix (K := K) (r := rIxL) ix_list rfl) (pv 0) pe_int (fun _ _ => rfl)) (pe_callB (k_len (K := K) rfl) (by rfl) T.n_len PySem.boot_len (pa_cons (pe_ix (kix (K := K) (r := rIxL) ix_list rfl) (pv 0) pe_int (fun _ _ => rfl)) pa_nil)) (nomark _)) (pss_one (ps_set (i := 2) sc_lw_take.nd rfl (Or.inl rfl) (pe_ix (kix (K := K) (r := rIxL) ix_list rfl) (pe_ix (kix (K := K) (r := rIxL) ix_list rfl) (pv 0) pe_int (fun _ _ => rfl)) (pe_ix (kix (K := K) (r := rIxL) ix_list rfl) (pv 0) pe_int (fun _ _ => rfl)) (fun _ _ => rfl)))) pss_nil)
        (pss_cons (ps_augS (pv 0) pe_int get_list pe_int ip_add set_list)
        (C8.pss_cut (ps_if (pt_cmpR op_ge (pv 2) pe_int (nomark _)) (pss_one (ps_asg (pv 2) (pg_sub (pv 0) pe_int set_list))) pss_nil)
        (pss_one (ps_asg (pe_op op_mod (pe_op op_add (pe_op op_add (pe_op op_mul (pe_ix (kix (K := K) (r := rIxL) ix_list rfl) (pv 0) pe_int (fun _ _ => rfl)) pe_int) (pe_op op_mod (pv 2) pe_int)) (pe_op op_mul pe_int (pe_ix (kix (K := K) (r := rIxL) ix_list rfl) (pv 0) pe_int (fun _ _ => rfl)))) pe_int) (pg_sub (pv 0) pe_int set_list))))))) pss_nil)
    (pss_cons (ps_if (pt_cmpR op_gt (pe_ix (kix (K := K) (r := rIxL) ix_list rfl) (pv 0) pe_int (fun _ _ => rfl)) pe_int (nomark _)) (pss_cons (ps_set (i := 3) sc_lw_take.nd rfl (Or.inl rfl) (pe_op op_mod (pe_ix (kix (K := K) (r := rIxL) ix_list rfl) (pv 0) pe_int (fun _ _ => rfl)) (pv 1)))
        (pss_cons (ps_asg (pe_op op_fdivW (pe_ix (kix (K := K) (r := rIxL) ix_list rfl) (pv 0) pe_int (fun _ _ => rfl)) (pv 1)) (pg_sub (pv 0) pe_int set_list))
        (pss_one (ps_ret (pv 3))))) pss_nil)
    (pss_cons (ps_set (i := 4) sc_lw_take.nd rfl (Or.inl rfl) (pe_op op_mod (pe_op op_mul (pe_op op_add (pe_ix (kix (K := K) (r := rIxL) ix_list rfl) (pv 0) pe_int (fun _ _ => rfl)) pe_int) pe_int) pe_int))
    (pss_cons (ps_set (i := 5) sc_lw_take.nd rfl (Or.inl rfl) (pe_op op_mod (pe_op op_mul (pe_op op_mod (pe_op op_mul (pv 4) (pv 4)) pe_int) pe_int) pe_int))
    (pss_cons (ps_if (pt_cmpR op_gt (pv 1) pe_int (nomark _)) (pss_one (ps_ret (pe_op op_mod (pe_op op_add (pe_op op_mul (pv 5) pe_int) (pv 4)) (pv 1)))) pss_nil)
    (pss_one (ps_ret (pe_op op_mod (pe_op op_fdivW (pv 5) pe_int) (pv 1))))))))), ?_⟩
    have hb : H b = some (.lst [.int x, .int y, .int z, .ref c]) := hb
    have hc : H c = some (.lst (ns.map V.int)) := hc
    have k : ∀ v H', 0 ≤ v → v < many → Bag H' (b, c) → (∀ a, a ≠ b → H' a = H a) → Q (.int v) H' := k
    have ncb : c ≠ b := by
      rintro rfl
      rw [hb] at hc
      cases ns with
      | nil => cases hc
      | cons n1 ns => cases ns with
        | nil => cases hc
        | cons n2 ns => cases ns with
          | nil => cases hc
          | cons n3 ns => cases ns with
            | nil => cases hc
            | cons n4 ns => cases hc
    -- what stands behind the cell's taking
    refine ⟨fun σ H' => ∃ (o2 : Option V) (x y z : Int), σ = [some (.ref b), some (.int many), o2, none, none, none] ∧ 0 ≤ x ∧ (0 ≤ y ∧ y < 2147483647) ∧ 0 ≤ z ∧ H' b = some (.lst [.int x, .int y, .int z, .ref c]) ∧ (∀ a, a ≠ b → H' a = H a), ?_, ?_⟩
    · refine ⟨_, rfl, b, _, 0, _, rfl, rfl, SqL.of hb, rfl, rfl, _, rfl, ite2 (fun e => ?_) (fun e => ?_)⟩
      · -- cell = 0; if bag[2] < len(bag[3]): cell = bag[3][bag[2]]
        have ex : x = 0 := V.int.inj (of_decide_eq_true e)
        subst ex
        -- behind the cell's choice
        refine ⟨fun σ H' => H' = H ∧ ∃ cell : Int, 0 ≤ cell ∧ σ = [some (.ref b), some (.int many), some (.int cell), none, none, none], ?_, ?_⟩
        · refine ⟨_, rfl, b, _, 2, _, rfl, rfl, SqL.of hb, rfl, _, rfl, b, _, 3, _, rfl, rfl, SqL.of hb, rfl, c, _, rfl, .inl (SqL.of hc), _, _, rfl, rfl, _, rfl, ite2 (fun e => ?_) (fun e => ?_)⟩
          · have e0 : z < ns.length := by simpa using of_decide_eq_true e
            obtain ⟨n, rfl⟩ := Int.eq_ofNat_of_zero_le hz
            have hl : n < ns.length := by omega
            refine ⟨_, rfl, b, _, 3, _, rfl, rfl, SqL.of hb, rfl, _, rfl, b, _, 2, _, rfl, rfl, SqL.of hb, rfl, c, _, _, .int ns[n], rfl, rfl, SqL.of hc, atI_nat (by rw [List.getElem?_map, List.getElem?_eq_getElem hl]; rfl), rfl, ns[n], hn _ (List.getElem_mem hl), rfl⟩
          · exact ⟨rfl, 0, Int.le_refl _, rfl⟩
        · rintro σ H' ⟨rfl, cell, hcell, rfl⟩
          refine ⟨_, rfl, b, _, 2, _, rfl, rfl, SqL.of hb, rfl, _, _, rfl, rfl, b, _, 2, 2, rfl, rfl, hb, rfl, ?_⟩
          refine ⟨fun σ H2 => ∃ x : Int, 0 ≤ x ∧ σ = [some (.ref b), some (.int many), some (.int cell), none, none, none] ∧ H2 b = some (.lst [.int x, .int y, .int (z + 1), .ref c]) ∧ (∀ a, a ≠ b → H2 a = H' a), ?_, ?_⟩
          · refine ⟨_, rfl, _, _, rfl, rfl, _, rfl, ite2 (fun e => ?_) (fun e => ?_)⟩
            · refine ⟨_, rfl, _, rfl, b, _, 0, 0, rfl, rfl, upd_same, rfl, cell, hcell, rfl, upd_same, fun a ha => (upd_ne ha).trans (upd_ne ha)⟩
            · exact ⟨0, Int.le_refl _, rfl, upd_same, fun a ha => upd_ne ha⟩
          · rintro σ H2 ⟨x, hx, rfl, hb2, hs2⟩
            refine ⟨_, rfl, b, _, 1, _, rfl, rfl, SqL.of hb2, rfl, _, _, rfl, rfl, .inl (by omega), _, rfl, _, _, rfl, rfl, (by walk_at "pos"), _, _, rfl, rfl, ?_⟩
            refine ⟨_, rfl, b, _, 2, _, rfl, rfl, SqL.of hb2, rfl, _, _, rfl, rfl, .inl (by decide), _, _, rfl, rfl, _, _, rfl, rfl, (by walk_at "pos"), _, rfl, b, _, 1, 1, rfl, rfl, hb2, rfl, ?_⟩
            exact ⟨_, x, _, z + 1, rfl, hx, ⟨Int.emod_nonneg _ (by decide), Int.emod_lt_of_pos _ (by decide)⟩, by omega, upd_same, fun a ha => (upd_ne ha).trans (hs2 a ha)⟩
      · exact ⟨none, x, y, z, rfl, hx, ⟨hy, hy2⟩, hz, hb, fun _ _ => rfl⟩
    · rintro σ H' ⟨o2, x, y, z, rfl, hx, ⟨hy, hy2⟩, hz, hb, hs⟩
      have hc' : H' c = some (.lst (ns.map V.int)) := (hs c ncb).trans hc
      refine ⟨_, rfl, b, _, 0, _, rfl, rfl, SqL.of hb, rfl, _, _, rfl, rfl, _, rfl, ite2 (fun e => ?_) (fun e => ?_)⟩
      · have e0 : 0 < x := of_decide_eq_true e
        refine ⟨_, rfl, b, _, 0, _, rfl, rfl, SqL.of hb, rfl, _, rfl, _, _, rfl, rfl, hm, ?_⟩
        refine ⟨_, rfl, b, _, 0, _, rfl, rfl, SqL.of hb, rfl, _, rfl, _, _, rfl, rfl, divW hm hm2, ?_⟩
        refine ⟨_, rfl, b, _, 0, 0, rfl, rfl, hb, rfl, ?_⟩
        refine ⟨_, rfl, ?_⟩
        refine k _ _ (Int.emod_nonneg _ (by omega)) (Int.emod_lt_of_pos _ hm) ⟨x / many, y, z, ns, upd_same, (upd_ne ncb).trans hc', Int.ediv_nonneg hx (by omega), ⟨hy, hy2⟩, hz, hn⟩ (fun a ha => (upd_ne ha).trans (hs a ha))
      · -- the stirred number
        refine ⟨_, rfl, b, _, 1, _, rfl, rfl, SqL.of hb, rfl, _, _, rfl, rfl, _, _, rfl, rfl, .inl (by omega), _, _, rfl, rfl, (by walk_at "pos"), ?_⟩
        have f1 : 0 ≤ (y + 1) * 39373 % 1000000007 := Int.emod_nonneg _ (by decide)
        have f2 : (y + 1) * 39373 % 1000000007 < 1000000007 := Int.emod_lt_of_pos _ (by decide)
        generalize (y + 1) * 39373 % 1000000007 = p at *
        have g1 : 0 ≤ p * p % 998244353 := Int.emod_nonneg _ (by decide)
        have g2 : p * p % 998244353 < 998244353 := Int.emod_lt_of_pos _ (by decide)
        refine ⟨_, rfl, _, rfl, _, _, rfl, rfl, .inl (by omega), _, _, rfl, rfl, (by walk_at "pos"), _, _, rfl, rfl, .inl (by omega), _, _, rfl, rfl, (by walk_at "pos"), ?_⟩
        have s1 : 0 ≤ p * p % 998244353 * 30011 % 998244353 := Int.emod_nonneg _ (by decide)
        have s2 : p * p % 998244353 * 30011 % 998244353 < 998244353 := Int.emod_lt_of_pos _ (by decide)
        generalize p * p % 998244353 * 30011 % 998244353 = q at *
        have back : ∀ v : Int, 0 ≤ v → v < many → Q (.int v) H' := fun v h1 h2 => k v H' h1 h2 ⟨x, y, z, ns, hb, hc', hx, ⟨hy, hy2⟩, hz, hn⟩ hs
        refine ⟨_, rfl, _, _, rfl, rfl, _, rfl, ite2 (fun e => ?_) (fun e => ?_)⟩
        · refine ⟨_, rfl, _, _, rfl, rfl, .inl (by omega), _, rfl, _, _, rfl, rfl, _, rfl, _, _, rfl, rfl, hm, ?_⟩
          exact back _ (Int.emod_nonneg _ (by omega)) (Int.emod_lt_of_pos _ hm)
        · refine ⟨_, rfl, _, _, rfl, rfl, divW (by decide) (by decide), _, rfl, _, _, rfl, rfl, hm, ?_⟩
          exact back _ (Int.emod_nonneg _ (by omega)) (Int.emod_lt_of_pos _ hm)
end
end K62
end
section
set_option Elab.async false
set_option linter.all false
set_option maxRecDepth 100000
set_option maxHeartbeats 4000000
namespace K62
local macro_rules | `(tactic| walk_at "pos") => `(tactic| (show (0 : Int) < _; first | decide | omega))
open PySem PySem.Spec PyProof.Rows L2 Lf 
open Evl
local macro_rules | `(tactic| walk_at "lk") => `(tactic| (simp (disch := decide +kernel) only [lk_hit, lk_miss, lk_nil]))
local macro_rules | `(tactic| walk_at "pf") => `(tactic| (simp (disch := decide +kernel) only [pf_hit, pf_miss, pf_nil]))
section
variable {P : Program} {w : World} {K : PySem.W.Frag} {mg : Str → Option Value} {base : Heap} (T : Top K mg )
include T
theorem c_lw_bag : Cal P w K mg base CX0 1 "_law_bag" (spBag K) := by
  refine T.d_lw_bag.cal sc_lw_bag (fun vs H Q E h => ?_) (fun f cdv A outer s H vs Q E g hr h => ?_)
  · obtain ⟨a, ns, rfl, _⟩ := h
    rfl
  · obtain ⟨a, ns, rfl, hx, hl, k⟩ := h
    refine ⟨_, (pss_one (ps_ret (pe_lst (pa_cons pe_int (pa_cons pe_int (pa_cons pe_int (pa_cons (pe_lc (own := [("_law_cell", 1)]) (g := (gName 1)) (tt := tYes) (by rfl) sc_lw_bag.nd (k_list (K := K) rfl (pe_slice (ksl (K := K) (r := rSlL) sl_list rfl) (pv 0) po_none (po_some pe_int))) (blkOk_by (own := [("_law_cell", 1)]) (N := ns_lw_bag) (sc := defScope s_lw_bag) (by decide +kernel)) (fun _ _ _ _ _ => (pg_name (i := 1) sc_lw_bag.nd rfl (Or.inl rfl))) (fun _ _ _ _ _ => pts_nil) (fun _ _ _ _ _ => (pe_callB call_abs (by rfl) T.n_abs (by decide +kernel) (pa_cons (pv 1) pa_nil)))) pa_nil))))))), ?_⟩
    have cut : ∃ ms : List Int, cutV (ns.map V.int) none (some 63) = ms.map V.int ∧ ms.length ≤ 63 := by
      refine ⟨(ns.drop (HT.sIx (ns.map V.int).length 0 none)).take (HT.sIx (ns.map V.int).length (ns.map V.int).length (some 63) - HT.sIx (ns.map V.int).length 0 none), ?_, ?_⟩
      · unfold cutV
        rw [List.map_take, List.map_drop]
      · rw [List.length_take, List.length_drop]
        omega
    obtain ⟨ms, e1, hms⟩ := cut
    have sl : EvL (tSl (rSlL K) (tVar 0) tNoPart (tPart (tC (.int 63)))) [some (V.ref a), none] H (ms.map V.int) := by
      rw [← e1]
      exact el_sl (ev_var rfl) eo_none (eo_some ev_c) hx
    have lc := el_lcNL (K := K) (t := tYes) (te := tCB (fun xs H Q => ∃ i, xs = [V.int i] ∧ Q (.int (if i < 0 then -i else i)) H) (tCons (tVar 1) tNil)) (j := 1) (vs := [1]) (fun _ => true) (fun i => V.int (if ms.getD i 0 < 0 then -ms.getD i 0 else ms.getD i 0)) sl (by rw [List.length_map]; omega) (fun _ => rfl) (fun _ _ _ _ _ => yes_ok) (fun i x H1 e1 hi _ => by
      have hil : i < ms.length := by
        have := (List.getElem?_eq_some_iff.mp hi).1
        rw [List.length_map] at this
        exact this
      rw [getD_int hil] at hi
      cases hi
      exact ev_cb (ea_cons (ev_var rfl) ea_nil) (fun H2 e2 Q q => ⟨_, rfl, q H2 (Ex.refl _)⟩))
    rw [given_all] at lc
    refine s_retLst4 lc fun c H1 c0 e2 hc p hp => ?_
    refine k (p, c) _ (e2.trans (Ex.new hp)) (fresh_back e2 hp) ⟨0, 1234567891, 0, (List.range ms.length).map fun i => if ms.getD i 0 < 0 then -ms.getD i 0 else ms.getD i 0, upd_same, ?_, by decide, by decide, by decide, ?_⟩
    · rw [upd_ne (ne_of_none hc hp), hc, List.length_map, List.map_map]
      rfl
    · intro n hn
      obtain ⟨i, _, rfl⟩ := List.mem_map.mp hn
      split <;> omega
end
end K62
end
section
set_option Elab.async false
set_option linter.all false
set_option maxRecDepth 100000
set_option maxHeartbeats 4000000
namespace K62
local macro_rules | `(tactic| walk_at "pos") => `(tactic| (show (0 : Int) < _; first | decide | omega))
open PySem PySem.Spec PyProof.Rows L2 Lf 
open Evl
local macro_rules | `(tactic| walk_at "lk") => `(tactic| (simp (disch := decide +kernel) only [lk_hit, lk_miss, lk_nil]))
local macro_rules | `(tactic| walk_at "pf") => `(tactic| (simp (disch := decide +kernel) only [pf_hit, pf_miss, pf_nil]))
section
variable {P : Program} {w : World} {K : PySem.W.Frag} {mg : Str → Option Value} {base : Heap} (T : Top K mg )
include T
theorem c_number_of : Cal P w K mg base CX0 1 "number_of" (spNumber K) := by
  refine T.d_number_of.cal sc_number_of (fun vs H Q E h => ?_) (fun f cdv A outer s H vs Q E g hr h => ?_)
  · obtain ⟨v, o, rfl, _⟩ := h
    rfl
  · obtain ⟨v, o, rfl, ⟨t, b1, b2, ty, k1, k2, hc⟩, k⟩ := h
    refine ⟨_, (pss_cons (ps_if (PW.pt (pw_or (pt_not (pt_val (pe_callB (kcr (K := K) (r := rIsi) call_isi rfl) (by rfl) T.n_isinstance (by decide +kernel) (pa_cons (pv 0) (pa_cons (pe_bltn (v := .ty "int") (by rfl) T.n_int (by decide +kernel) rfl) pa_nil))))) (pw_or1 (pt_val (pe_callB (kcr (K := K) (r := rIsi) call_isi rfl) (by rfl) T.n_isinstance (by decide +kernel) (pa_cons (pv 0) (pa_cons (pe_bltn (v := .ty "bool") (by rfl) T.n_bool (by decide +kernel) rfl) pa_nil))))))) (pss_one (ps_ret pe_non)) pss_nil)
    (pss_cons (ps_set (i := 1) sc_number_of.nd rfl (Or.inl rfl) (pe_callTy cr_range1 (by rfl) T.n_range (by decide +kernel) (pa_cons (pv 0) pa_nil)))
    (pss_cons (ps_if (pt_cmpR op_in_rng pe_int (pv 1) rfl) (pss_one (ps_ret (pe_op op_add (pe_ix ix_rng (pv 1) (pe_un un_neg pe_int) (fun _ _ => rfl)) pe_int))) pss_nil)
    (pss_cons (ps_set (i := 2) sc_number_of.nd rfl (Or.inl rfl) (pe_callTy cr_range2 (by rfl) T.n_range (by decide +kernel) (pa_cons (pv 0) (pa_cons pe_int pa_nil))))
    (pss_one (ps_ret (pe_ix ix_rng (pv 2) pe_int (fun _ _ => rfl)))))))), ?_⟩
    refine ⟨_, rfl, v, .ty "int", t, .type "int", b1, rfl, .ty _, ty, k1, b1, rfl, ?_⟩
    rcases hc with ⟨rfl, rfl, i, rfl, rfl⟩ | ⟨rfl, rfl⟩ | ⟨rfl, rfl, rfl⟩
    · refine iteF ⟨_, rfl, .int i, .ty "bool", t, .type "bool", false, rfl, .ty _, ty, k2, false, rfl, iteF ?_⟩
      refine ⟨_, rfl, i, rfl, fun p hp => ?_⟩
      refine ⟨_, rfl, 0, p, 0, i, rfl, rfl, upd_same, _, rfl, ite2 (fun e => ?_) (fun e => ?_)⟩
      · have e0 := of_decide_eq_true e
        refine ⟨_, rfl, 1, rfl, p, 0, i, -1, -1 + (i - 0), rfl, rfl, upd_same, rfl, ⟨by omega, by omega⟩, _, _, rfl, rfl, ?_⟩
        have e1 : 0 + (-1 + (i - 0)) + 1 = i := by omega
        show Q (V.int (0 + (-1 + (i - 0)) + 1)) _
        rw [e1]
        exact k _ (Ex.new hp)
      · have e0 : ¬ (0 < i) := fun z => e (decide_eq_true ⟨Int.le_refl _, z⟩)
        refine ⟨_, rfl, i, 1, rfl, fun q hq => ?_⟩
        refine ⟨_, rfl, q, i, 1, 0, 0, rfl, rfl, upd_same, rfl, ⟨by omega, by omega⟩, ?_⟩
        rw [Int.add_zero]
        exact k _ ((Ex.new hp).trans (Ex.new hq))
    · exact iteT (iteT (k _ (Ex.refl _)))
    · exact iteF ⟨_, rfl, v, .ty "bool", t, .type "bool", true, rfl, .ty _, ty, k2, true, rfl, iteT (k _ (Ex.refl _))⟩
end
end K62
end
section
set_option Elab.async false
set_option linter.all false
set_option maxRecDepth 100000
set_option maxHeartbeats 4000000
namespace K62
local macro_rules | `(tactic| walk_at "pos") => `(tactic| (show (0 : Int) < _; first | decide | omega))
open PySem PySem.Spec PyProof.Rows L2 Lf 
open Evl
local macro_rules | `(tactic| walk_at "lk") => `(tactic| (simp (disch := decide +kernel) only [lk_hit, lk_miss, lk_nil]))
local macro_rules | `(tactic| walk_at "pf") => `(tactic| (simp (disch := decide +kernel) only [pf_hit, pf_miss, pf_nil]))
/-! questions in own kinds -/
def Rise (ns : List Int) : Prop := ∀ (i : Nat) a b, ns[i]? = some a → ns[i + 1]? = some b → a < b
def spNums (K : PySem.W.Frag) : Sp := fun vs H Q _ => ∃ (p : Addr) (ns : List Int), vs = [.ref p] ∧ SqT K H p (ns.map V.int) ∧ ns.length ≤ 100 ∧ RetU (ns.map V.int) H Q
structure Qu where
  n : Int
  s : Int
  places : Option (List Int)
  first : Int
  every : Int
  length : Int
  lag : Int
structure Qu.Ok (q : Qu) : Prop where
  n : 1 ≤ q.n
  s : 0 ≤ q.s ∧ q.s ≤ 9
  pl : ∀ ns, q.places = some ns → Rise ns ∧ ns ≠ [] ∧ ns.length ≤ 10 ∧ ∀ n ∈ ns, 0 ≤ n ∧ n ≤ 9
  first : 0 ≤ q.first ∧ q.first ≤ 1000000
  every : 1 ≤ q.every ∧ q.every ≤ 20
  length : 1 ≤ q.length ∧ q.length ≤ 8 ∧ q.length ≤ 2 * q.every
  lag : 0 ≤ q.lag ∧ q.lag ≤ 200
def PlAt (K : PySem.W.Frag) (H : Hp) (v : V) : Option (List Int) → Prop
  | none => v = .non
  | some ns => ∃ a, v = .ref a ∧ SqT K H a (ns.map V.int)
theorem PlAt.ex {K : PySem.W.Frag} {H H' : Hp} {v : V} {o : Option (List Int)} (h : PlAt K H v o) (e : Ex H H') : PlAt K H' v o := by
  cases o with
  | none => exact h
  | some ns => exact let ⟨a, h1, h2⟩ := h; ⟨a, h1, ex_t e h2⟩
def Qu.row (q : Qu) (v : V) : List V := [.int q.n, .int q.s, v, .int q.first, .int q.every, .int q.length, .int q.lag]
def Qu.tail (q : Qu) (v : V) : List V := [.int q.s, v, .int q.first, .int q.every, .int q.length, .int q.lag]
def spPT (K : PySem.W.Frag) : Sp := fun vs H Q _ => ∃ (p : Addr) (q : Qu) (v : V), vs = [.ref p] ∧ SqL K H p (q.tail v) ∧ PlAt K H v q.places ∧ q.Ok ∧ ∀ H' u v', Ex H H' → H u = none → SqT K H' u (q.tail v') → PlAt K H' v' q.places → Q (.ref u) H'
def spPQ (K : PySem.W.Frag) : Sp := fun vs H Q _ => ∃ (p : Addr) (q : Qu) (v : V), vs = [.ref p] ∧ SqT K H p (q.row v) ∧ PlAt K H v q.places ∧ q.Ok ∧ ∀ H' u v', Ex H H' → H u = none → SqT K H' u (q.row v') → PlAt K H' v' q.places → Q (.ref u) H'
theorem ints_range (ns : List Int) : (List.range (ns.map V.int).length).map (fun i => V.int (ns.getD i 0)) = ns.map V.int := by
  rw [List.length_map]
  apply List.ext_getElem (by rw [List.length_map, List.length_range, List.length_map])
  intro i h1 h2
  rw [List.length_map] at h2
  rw [List.getElem_map, List.getElem_map, List.getElem_range, List.getD_eq_getElem?_getD, List.getElem?_eq_getElem h2]
  rfl
theorem eu_tpl {K : PySem.W.Frag} {σ : L2.St} {H : Hp} {te : TE} {xs : List V} (h : EvL te σ H xs) : EvU (tCB (rTpl K) (tCons te tNil)) σ H xs := fun H1 e Q q =>
  h H1 e _ fun l H2 l0 e2 hl2 => ⟨l, xs, rfl, .inl ⟨sq_of hl2, fun r hr => q r _ (fresh_back e2 hr) (e2.trans (Ex.new hr)) upd_same⟩⟩
section
variable {P : Program} {w : World} {K : PySem.W.Frag} {mg : Str → Option Value} {base : Heap} (T : Top K mg )
include T
theorem c_numbers_in : Cal P w K mg base CX0 4 "numbers_in" (spNums K) := by
  refine T.d_numbers_in.cal sc_numbers_in (fun vs H Q E h => ?_) (fun f cdv A outer s H vs Q E g hr h => ?_)
  · obtain ⟨p, ns, rfl, _⟩ := h
    rfl
  · obtain ⟨p, ns, rfl, hx, hl, k⟩ := h
    refine ⟨_, (pss_one (ps_ret (pe_callTy (k_tpl (K := K) rfl) (by rfl) T.n_tuple (by decide +kernel) (pa_cons (pe_lc (own := [("thing", 1)]) (g := (gName 1)) (tt := tYes) (by rfl) sc_numbers_in.nd (k_tup (K := K) rfl (pv 0)) (blkOk_by (own := [("thing", 1)]) (N := ns_numbers_in) (sc := defScope s_numbers_in) (by decide +kernel)) (fun _ _ _ _ _ => (pg_name (i := 1) sc_numbers_in.nd rfl (Or.inl rfl))) (fun _ _ _ _ _ => pts_nil) (fun _ _ _ _ _ => (ec (c_number_of T) g hr (by decide) pass0 (by rfl) (pa_cons (pv 1) pa_nil)))) pa_nil)))), ?_⟩
    have hm := el_mapT (K := K) (σ := [some (V.ref p), none]) (H := H) (te := tCl (spNumber K) E0 (tCons (tVar 1) tNil)) (tl := tVar 0) (j := 1) (vs := [1]) (fun i => V.int (ns.getD i 0)) (ev_var rfl) hx (by rw [List.length_map]; omega) (fun _ => rfl) (fun i x H2 e2 hx2 => by
      rw [List.getElem?_map] at hx2
      cases e : ns[i]? with
      | none => rw [e] at hx2; cases hx2
      | some n =>
        rw [e] at hx2
        cases hx2
        have : ns.getD i 0 = n := by rw [List.getD_eq_getElem?_getD, e]; rfl
        rw [this]
        exact ev_cl (ea_cons (ev_var rfl) ea_nil) (sv_number K _ n))
    rw [ints_range] at hm
    exact eu_tpl hm H (Ex.refl _) _ fun r H2 r0 e2 hr => k r H2 r0 e2 hr
end
end K62
end
section
set_option Elab.async false
set_option linter.all false
set_option maxRecDepth 100000
set_option maxHeartbeats 4000000
namespace K62
local macro_rules | `(tactic| walk_at "pos") => `(tactic| (show (0 : Int) < _; first | decide | omega))
open PySem PySem.Spec PyProof.Rows L2 Lf 
open Evl
local macro_rules | `(tactic| walk_at "lk") => `(tactic| (simp (disch := decide +kernel) only [lk_hit, lk_miss, lk_nil]))
local macro_rules | `(tactic| walk_at "pf") => `(tactic| (simp (disch := decide +kernel) only [pf_hit, pf_miss, pf_nil]))
section
variable {P : Program} {w : World} {K : PySem.W.Frag} {mg : Str → Option Value} {base : Heap} (T : Top K mg )
include T
theorem c_plain_terms : Cal P w K mg base CX0 5 "plain_terms" (spPT K) := by
  refine T.d_plain_terms.cal sc_plain_terms (fun vs H Q E h => ?_) (fun f cdv A outer s H vs Q E g hr h => ?_)
  · obtain ⟨p, q, v, rfl, _⟩ := h
    rfl
  · obtain ⟨p, q, v, rfl, hx, hv, ok, k⟩ := h
    refine ⟨_, (pss_cons (ps_asg (pv 0) (pg_lst (by rfl) (pgs_cons (pg_name (i := 1) sc_plain_terms.nd rfl (Or.inl rfl)) (pgs_cons (pg_name (i := 2) sc_plain_terms.nd rfl (Or.inl rfl)) (pgs_cons (pg_name (i := 3) sc_plain_terms.nd rfl (Or.inl rfl)) (pgs_cons (pg_name (i := 4) sc_plain_terms.nd rfl (Or.inl rfl)) (pgs_cons (pg_name (i := 5) sc_plain_terms.nd rfl (Or.inl rfl)) (pgs_cons (pg_name (i := 6) sc_plain_terms.nd rfl (Or.inl rfl)) pgs_nil))))))))
    (pss_cons (ps_set (i := 7) sc_plain_terms.nd rfl (Or.inl rfl) (pe_ifExp (pt_cmpR op_notN (pv 2) pe_non (nomark _)) (ec (c_numbers_in T) g hr (by decide) pass0 (by rfl) (pa_cons (pv 2) pa_nil)) pe_non))
    (pss_one (ps_ret (pe_tup (pa_cons (ec (c_number_of T) g hr (by decide) pass0 (by rfl) (pa_cons (pv 1) pa_nil)) (pa_cons (pv 7) (pa_cons (ec (c_number_of T) g hr (by decide) pass0 (by rfl) (pa_cons (pv 3) pa_nil)) (pa_cons (ec (c_number_of T) g hr (by decide) pass0 (by rfl) (pa_cons (pv 4) pa_nil)) (pa_cons (ec (c_number_of T) g hr (by decide) pass0 (by rfl) (pa_cons (pv 5) pa_nil)) (pa_cons (ec (c_number_of T) g hr (by decide) pass0 (by rfl) (pa_cons (pv 6) pa_nil)) pa_nil))))))))))), ?_⟩
    refine ⟨_, rfl, p, _, rfl, hx, rfl, _, _, rfl, _, _, rfl, _, _, rfl, _, _, rfl, _, _, rfl, _, _, rfl, rfl, ?_⟩
    have fin : ∀ (v' : V) (H6 : Hp), Ex H H6 → PlAt K H6 v' q.places → tRet (tTup (tCons (tCl (spNumber K) E0 (tCons (tVar 1) tNil)) (tCons (tVar 7) (tCons (tCl (spNumber K) E0 (tCons (tVar 3) tNil)) (tCons (tCl (spNumber K) E0 (tCons (tVar 4) tNil)) (tCons (tCl (spNumber K) E0 (tCons (tVar 5) tNil)) (tCons (tCl (spNumber K) E0 (tCons (tVar 6) tNil)) tNil))))))) { nx := fun x H' => Q V.non H', rt := Q } [some (V.ref p), some (.int q.s), some v, some (.int q.first), some (.int q.every), some (.int q.length), some (.int q.lag), some v'] H6 := by
      intro v' H6 e6 hv'
      have num : ∀ {i : Int} {j : Nat} {H7 : Hp}, ([some (V.ref p), some (.int q.s), some v, some (.int q.first), some (.int q.every), some (.int q.length), some (.int q.lag), some v'])[j]? = some (some (.int i)) → Ev (tCl (spNumber K) E0 (tCons (tVar j) tNil)) [some (V.ref p), some (.int q.s), some v, some (.int q.first), some (.int q.every), some (.int q.length), some (.int q.lag), some v'] H7 (.int i) := fun hj => ev_cl (ea_cons (ev_var hj) ea_nil) (sv_number K _ _)
      have hu : EvU (tTup (tCons (tCl (spNumber K) E0 (tCons (tVar 1) tNil)) (tCons (tVar 7) (tCons (tCl (spNumber K) E0 (tCons (tVar 3) tNil)) (tCons (tCl (spNumber K) E0 (tCons (tVar 4) tNil)) (tCons (tCl (spNumber K) E0 (tCons (tVar 5) tNil)) (tCons (tCl (spNumber K) E0 (tCons (tVar 6) tNil)) tNil))))))) [some (V.ref p), some (.int q.s), some v, some (.int q.first), some (.int q.every), some (.int q.length), some (.int q.lag), some v'] H6 (q.tail v') := eu_tup (ea_cons (num rfl) (ea_cons (ev_var rfl) (ea_cons (num rfl) (ea_cons (num rfl) (ea_cons (num rfl) (ea_cons (num rfl) ea_nil)))))) (by show 6 ≤ 100000; decide)
      exact hu H6 (Ex.refl _) _ fun u H7 u0 e7 hu => k H7 u v' (e6.trans e7) (fresh_back e6 u0) (st_of hu) (hv'.ex e7)
    cases hpl : q.places with
    | none =>
      rw [hpl] at hv fin
      have hv : v = .non := hv
      subst hv
      exact ⟨_, rfl, rfl, _, rfl, iteF (fin .non H (Ex.refl _) rfl)⟩
    | some ns =>
      rw [hpl] at hv fin
      obtain ⟨a, rfl, ha⟩ := hv
      obtain ⟨g1, g2, g3, g4⟩ := ok.pl ns hpl
      exact ⟨_, rfl, rfl, _, rfl, iteT ⟨_, rfl, a, ns, rfl, ha, by omega, fun r H6 r0 e6 hr => fin (.ref r) H6 e6 ⟨r, rfl, st_of hr⟩⟩⟩
end
end K62
end
section
set_option Elab.async false
set_option linter.all false
set_option maxRecDepth 100000
set_option maxHeartbeats 4000000
namespace K62
local macro_rules | `(tactic| walk_at "pos") => `(tactic| (show (0 : Int) < _; first | decide | omega))
open PySem PySem.Spec PyProof.Rows L2 Lf 
open Evl
local macro_rules | `(tactic| walk_at "lk") => `(tactic| (simp (disch := decide +kernel) only [lk_hit, lk_miss, lk_nil]))
local macro_rules | `(tactic| walk_at "pf") => `(tactic| (simp (disch := decide +kernel) only [pf_hit, pf_miss, pf_nil]))
def QAt (K : PySem.W.Frag) (H : Hp) (p : Addr) (q : Qu) : Prop := q.Ok ∧ ∃ v, SqT K H p (q.row v) ∧ PlAt K H v q.places
theorem QAt.ex {K : PySem.W.Frag} {H H' : Hp} {p : Addr} {q : Qu} (h : QAt K H p q) (e : Ex H H') : QAt K H' p q := let ⟨h1, v, h2, h3⟩ := h; ⟨h1, v, ex_t e h2, h3.ex e⟩
def Qu.begun (q : Qu) (t : Int) : Int := (t - q.first) / q.every + 1
def Qu.ended (q : Qu) (t : Int) : Int := if (t - q.first - q.length) / q.every + 1 > 0 then (t - q.first - q.length) / q.every + 1 else 0
def Qu.closes (q : Qu) (w : Int) : Int := q.first + w * q.every + q.length - 1 + q.lag
def Qu.since (q : Qu) (t : Int) : Int := (t - q.closes 0) / q.every
def Qu.rest (q : Qu) (t : Int) : Int := (t - q.closes 0) % q.every
def spWindows (K : PySem.W.Frag) : Sp := fun vs H Q _ => ∃ (p : Addr) (q : Qu) (t : Int), vs = [.ref p, .int t] ∧ QAt K H p q ∧ (-1000000000 ≤ t ∧ t ≤ 1000000000) ∧ RetL (rgV (q.ended t) (q.begun t)) H Q
def spCloses (K : PySem.W.Frag) : Sp := fun vs H Q _ => ∃ (p : Addr) (q : Qu) (w : Int), vs = [.ref p, .int w] ∧ QAt K H p q ∧ RetV (.int (q.closes w)) H Q
def spSince (K : PySem.W.Frag) : Sp := fun vs H Q _ => ∃ (p : Addr) (q : Qu) (t : Int), vs = [.ref p, .int t] ∧ QAt K H p q ∧ RetU [.int (q.since t), .int (q.rest t)] H Q
def spClosing (K : PySem.W.Frag) : Sp := fun vs H Q _ => ∃ (p : Addr) (q : Qu) (t : Int), vs = [.ref p, .int t] ∧ QAt K H p q ∧ RetL (if 0 ≤ q.since t ∧ q.rest t = 0 then [.int (q.since t)] else []) H Q
def spOver (K : PySem.W.Frag) : Sp := fun vs H Q _ => ∃ (p : Addr) (q : Qu) (t : Int), vs = [.ref p, .int t] ∧ QAt K H p q ∧ RetV (.int (if q.since t + 1 > 0 then q.since t + 1 else 0)) H Q
theorem ediv_lo {a e m : Int} (he : 1 ≤ e) (hm : 0 ≤ m) (h : -m ≤ a) : -m ≤ a / e := by
  refine Int.le_ediv_of_mul_le (by omega) ?_
  have h1 := Int.mul_le_mul_of_nonneg_left he hm
  rw [Int.neg_mul]
  omega
theorem ediv_hi {a e m : Int} (he : 1 ≤ e) (hm : 0 ≤ m) (h : a ≤ m) : a / e ≤ m := by
  refine Int.le_trans (Int.ediv_le_ediv (by omega) h) ?_
  exact Int.ediv_le_self _ hm
theorem ediv_gap {a e l : Int} (he : 1 ≤ e) (hl : 0 ≤ l) : a / e - l ≤ (a - l) / e := by
  refine Int.le_ediv_of_mul_le (by omega) ?_
  rw [Int.sub_mul]
  have h1 := Int.mul_le_mul_of_nonneg_left he hl
  have h2 := Int.ediv_mul_le a (show e ≠ 0 by omega)
  omega
theorem Qu.rg {q : Qu} (h : q.Ok) {t : Int} (ht : -1000000000 ≤ t ∧ t ≤ 1000000000) : RgOk (q.ended t) (q.begun t) := by
  have he := h.every.1
  have hf := h.first
  have hl := h.length
  have b1 := ediv_lo (a := t - q.first) (m := 2000000000) he (by decide) (by omega)
  have b2 := ediv_hi (a := t - q.first) (m := 2000000000) he (by decide) (by omega)
  have b3 := ediv_lo (a := t - q.first - q.length) (m := 2000000000) he (by decide) (by omega)
  have b4 := ediv_hi (a := t - q.first - q.length) (m := 2000000000) he (by decide) (by omega)
  have b5 := ediv_gap (a := t - q.first) (l := q.length) he (by omega)
  unfold RgOk Qu.ended Qu.begun
  generalize (t - q.first) / q.every = x at *
  generalize (t - q.first - q.length) / q.every = y at *
  split <;> refine ⟨by omega, by omega, by omega, by omega, by omega⟩
section
variable {P : Program} {w : World} {K : PySem.W.Frag} {mg : Str → Option Value} {base : Heap} (T : Top K mg )
include T
theorem c_plain_question : Cal P w K mg base CX0 6 "plain_question" (spPQ K) := by
  refine T.d_plain_question.cal sc_plain_question (fun vs H Q E h => ?_) (fun f cdv A outer s H vs Q E g hr h => ?_)
  · obtain ⟨p, q, v, rfl, _⟩ := h
    rfl
  · obtain ⟨p, q, v, rfl, hx, hv, ok, k⟩ := h
    refine ⟨_, (pss_cons (ps_asg (pv 0) (pg_star (K := K) (m := 2) (i := 1) rfl (by rfl) (pgs_cons (pg_name (i := 1) sc_plain_question.nd rfl (Or.inl rfl)) (pgs_star (pg_name (i := 2) sc_plain_question.nd rfl (Or.inl rfl)) pgs_nil))))
    (pss_cons (ps_set (i := 3) sc_plain_question.nd rfl (Or.inl rfl) (ec (c_plain_terms T) g hr (by decide) pass0 (by rfl) (pa_cons (pv 2) pa_nil)))
    (pss_one (ps_ret (pe_tup (pa_cons (ec (c_number_of T) g hr (by decide) pass0 (by rfl) (pa_cons (pv 1) pa_nil)) (StX.pa_star (pv 3) pa_nil))))))), ?_⟩
    refine ⟨_, rfl, p, _, rfl, hx, by show 1 ≤ 7; decide, fun l hl => ⟨_, _, rfl, _, _, rfl, rfl, ?_⟩⟩
    have e1 : Ex H (upd H l (.lst (q.tail v))) := Ex.new hl
    refine ⟨_, rfl, l, q, v, rfl, sq_of upd_same, hv.ex e1, ok, fun H4 u v' e4 u0 hu hv' => ?_⟩
    refine ⟨_, rfl, .int q.n, some q.n, rfl, .int K _ _, fun H5 e5 => ⟨_, rfl, u, _, rfl, .inl (ex_t e5 hu), ⟨by show 7 ≤ sizeLine; decide, fun z hz => ?_⟩⟩⟩
    exact k _ z v' ((e1.trans e4).trans (e5.trans (Ex.new hz))) (fresh_back ((e1.trans e4).trans e5) hz) (st_of upd_same) ((hv'.ex e5).ex (Ex.new hz))
theorem c_windows_of : Cal P w K mg base CX0 7 "windows_of" (spWindows K) := by
  refine T.d_windows_of.cal sc_windows_of (fun vs H Q E h => ?_) (fun f cdv A outer s H vs Q E g hr h => ?_)
  · obtain ⟨p, q, t, rfl, _⟩ := h
    rfl
  · obtain ⟨p, q, t, rfl, ⟨ok, v, hx, hv⟩, ht, k⟩ := h
    refine ⟨_, (pss_cons (ps_asg (ec (c_plain_question T) g hr (by decide) pass0 (by rfl) (pa_cons (pv 0) pa_nil)) (k_gtup (K := K) rfl (by rfl) (pgs_cons (pg_name (i := 2) sc_windows_of.nd rfl (Or.inl rfl)) (pgs_cons (pg_name (i := 2) sc_windows_of.nd rfl (Or.inl rfl)) (pgs_cons (pg_name (i := 2) sc_windows_of.nd rfl (Or.inl rfl)) (pgs_cons (pg_name (i := 3) sc_windows_of.nd rfl (Or.inl rfl)) (pgs_cons (pg_name (i := 4) sc_windows_of.nd rfl (Or.inl rfl)) (pgs_cons (pg_name (i := 5) sc_windows_of.nd rfl (Or.inl rfl)) (pgs_cons (pg_name (i := 2) sc_windows_of.nd rfl (Or.inl rfl)) pgs_nil)))))))))
    (pss_cons (ps_set (i := 6) sc_windows_of.nd rfl (Or.inl rfl) (pe_op op_sub (ec (c_number_of T) g hr (by decide) pass0 (by rfl) (pa_cons (pv 1) pa_nil)) (pv 3)))
    (pss_cons (ps_set (i := 7) sc_windows_of.nd rfl (Or.inl rfl) (pe_op op_add (pe_op op_fdivW (pv 6) (pv 4)) pe_int))
    (pss_cons (ps_set (i := 8) sc_windows_of.nd rfl (Or.inl rfl) (pe_callB (call_max2 rfl) (by rfl) T.n_max (by decide +kernel) (pa_cons pe_int (pa_cons (pe_op op_add (pe_op op_fdivW (pe_op op_sub (pv 6) (pv 5)) (pv 4)) pe_int) pa_nil))))
    (pss_one (ps_ret (pe_listRg (by rfl) (by rfl) T.n_list (prg_2 (by rfl) T.n_range (pv 8) (pv 7))))))))), ?_⟩
    refine ⟨_, rfl, p, q, v, rfl, hx, hv, ok, fun H1 u v' e1 u0 hu _ => ?_⟩
    refine ⟨u, _, rfl, hu, rfl, _, _, rfl, _, _, rfl, _, _, rfl, _, _, rfl, _, _, rfl, _, _, rfl, _, _, rfl, rfl, ?_⟩
    have he := ok.every
    refine ⟨_, rfl, .int t, some t, rfl, .int K _ _, fun H2 e2 => ⟨_, rfl, t, q.first, rfl, rfl, ?_⟩⟩
    refine ⟨_, rfl, _, rfl, t - q.first, q.every, rfl, rfl, divW (by omega) (by omega), (t - q.first) / q.every, 1, rfl, rfl, ?_⟩
    refine ⟨_, rfl, _, rfl, t - q.first, q.length, rfl, rfl, _, rfl, t - q.first - q.length, q.every, rfl, rfl, divW (by omega) (by omega), (t - q.first - q.length) / q.every, 1, rfl, rfl, 0, _, rfl, ?_⟩
    refine ⟨_, rfl, _, rfl, q.ended t, q.begun t, rfl, rfl, Qu.rg ok ht, fun l hl => ?_⟩
    exact k l _ (fresh_back (e1.trans e2) hl) ((e1.trans e2).trans (Ex.new hl)) upd_same
theorem c_closes : Cal P w K mg base CX0 7 "closes" (spCloses K) := by
  refine T.d_closes.cal sc_closes (fun vs H Q E h => ?_) (fun f cdv A outer s H vs Q E g hr h => ?_)
  · obtain ⟨p, q, t, rfl, _⟩ := h
    rfl
  · obtain ⟨p, q, w, rfl, ⟨ok, v, hx, hv⟩, k⟩ := h
    refine ⟨_, (pss_cons (ps_asg (ec (c_plain_question T) g hr (by decide) pass0 (by rfl) (pa_cons (pv 0) pa_nil)) (k_gtup (K := K) rfl (by rfl) (pgs_cons (pg_name (i := 2) sc_closes.nd rfl (Or.inl rfl)) (pgs_cons (pg_name (i := 2) sc_closes.nd rfl (Or.inl rfl)) (pgs_cons (pg_name (i := 2) sc_closes.nd rfl (Or.inl rfl)) (pgs_cons (pg_name (i := 3) sc_closes.nd rfl (Or.inl rfl)) (pgs_cons (pg_name (i := 4) sc_closes.nd rfl (Or.inl rfl)) (pgs_cons (pg_name (i := 5) sc_closes.nd rfl (Or.inl rfl)) (pgs_cons (pg_name (i := 6) sc_closes.nd rfl (Or.inl rfl)) pgs_nil)))))))))
    (pss_one (ps_ret (pe_op op_add (pe_op op_sub (pe_op op_add (pe_op op_add (pv 3) (pe_op op_mul (ec (c_number_of T) g hr (by decide) pass0 (by rfl) (pa_cons (pv 1) pa_nil)) (pv 4))) (pv 5)) pe_int) (pv 6))))), ?_⟩
    refine ⟨_, rfl, p, q, v, rfl, hx, hv, ok, fun H1 u v' e1 u0 hu _ => ?_⟩
    refine ⟨u, _, rfl, hu, rfl, _, _, rfl, _, _, rfl, _, _, rfl, _, _, rfl, _, _, rfl, _, _, rfl, _, _, rfl, rfl, ?_⟩
    have he := ok.every
    refine ⟨_, rfl, _, rfl, .int w, some w, rfl, .int K _ _, fun H2 e2 => ⟨_, rfl, w, q.every, rfl, rfl, .inr ⟨by omega, by omega⟩, q.first, w * q.every, rfl, rfl, _, rfl, _, _, rfl, rfl, _, _, rfl, rfl, _, rfl, _, _, rfl, rfl, k _ (e1.trans e2)⟩⟩
theorem c_since_closing : Cal P w K mg base CX0 8 "since_closing" (spSince K) := by
  refine T.d_since_closing.cal sc_since_closing (fun vs H Q E h => ?_) (fun f cdv A outer s H vs Q E g hr h => ?_)
  · obtain ⟨p, q, t, rfl, _⟩ := h
    rfl
  · obtain ⟨p, q, t, rfl, hq, k⟩ := h
    have hq' := hq
    obtain ⟨ok, v, hx, hv⟩ := hq'
    refine ⟨_, (pss_cons (ps_asg (ec (c_plain_question T) g hr (by decide) pass0 (by rfl) (pa_cons (pv 0) pa_nil)) (k_gtup (K := K) rfl (by rfl) (pgs_cons (pg_name (i := 2) sc_since_closing.nd rfl (Or.inl rfl)) (pgs_cons (pg_name (i := 2) sc_since_closing.nd rfl (Or.inl rfl)) (pgs_cons (pg_name (i := 2) sc_since_closing.nd rfl (Or.inl rfl)) (pgs_cons (pg_name (i := 2) sc_since_closing.nd rfl (Or.inl rfl)) (pgs_cons (pg_name (i := 3) sc_since_closing.nd rfl (Or.inl rfl)) (pgs_cons (pg_name (i := 2) sc_since_closing.nd rfl (Or.inl rfl)) (pgs_cons (pg_name (i := 2) sc_since_closing.nd rfl (Or.inl rfl)) pgs_nil)))))))))
    (pss_one (ps_ret (pe_callB call_divmod (by rfl) T.n_divmod (by decide +kernel) (pa_cons (pe_op op_sub (ec (c_number_of T) g hr (by decide) pass0 (by rfl) (pa_cons (pv 1) pa_nil)) (ec (c_closes T) g hr (by decide) pass0 (by rfl) (pa_cons (pv 0) (pa_cons pe_int pa_nil)))) (pa_cons (pv 3) pa_nil)))))), ?_⟩
    refine ⟨_, rfl, p, q, v, rfl, hx, hv, ok, fun H1 u v' e1 u0 hu _ => ?_⟩
    refine ⟨u, _, rfl, hu, rfl, _, _, rfl, _, _, rfl, _, _, rfl, _, _, rfl, _, _, rfl, _, _, rfl, _, _, rfl, rfl, ?_⟩
    have he := ok.every
    refine ⟨_, rfl, .int t, some t, rfl, .int K _ _, fun H2 e2 => ⟨_, rfl, p, q, 0, rfl, hq.ex (e1.trans e2), fun H3 e3 => ⟨t, q.closes 0, rfl, rfl, _, rfl, t - q.closes 0, q.every, rfl, ⟨by omega, by omega⟩, fun r hr => k r _ (fresh_back ((e1.trans e2).trans e3) hr) (((e1.trans e2).trans e3).trans (Ex.new hr)) upd_same⟩⟩⟩
theorem c_closing : Cal P w K mg base CX0 9 "closing" (spClosing K) := by
  refine T.d_closing.cal sc_closing (fun vs H Q E h => ?_) (fun f cdv A outer s H vs Q E g hr h => ?_)
  · obtain ⟨p, q, t, rfl, _⟩ := h
    rfl
  · obtain ⟨p, q, t, rfl, hq, k⟩ := h
    refine ⟨_, (pss_cons (ps_asg (ec (c_since_closing T) g hr (by decide) pass0 (by rfl) (pa_cons (pv 0) (pa_cons (pv 1) pa_nil))) (k_gtup (K := K) rfl (by rfl) (pgs_cons (pg_name (i := 2) sc_closing.nd rfl (Or.inl rfl)) (pgs_cons (pg_name (i := 3) sc_closing.nd rfl (Or.inl rfl)) pgs_nil))))
    (pss_one (ps_ret (pe_ifExp (PW.pt (pw_and (pt_cmpR op_ge (pv 2) pe_int (nomark _)) (pw_and1 (pt_cmpR op_eq (pv 3) pe_int (nomark _))))) (pe_lst (pa_cons (pv 2) pa_nil)) (pe_lst pa_nil))))), ?_⟩
    refine ⟨_, rfl, _, rfl, p, q, t, rfl, hq, fun u H1 u0 e1 hu => ?_⟩
    refine ⟨u, _, rfl, st_of hu, rfl, _, _, rfl, _, _, rfl, rfl, ?_⟩
    have hb : EvT (tAnd (tTest (tOp (rI0 fun i j => V.bl (decide (j ≤ i))) (tVar 2) (tC (V.int 0)))) (tTest (tOp rEq (tVar 3) (tC (V.int 0))))) [some (V.ref p), some (V.int t), some (.int (q.since t)), some (.int (q.rest t))] H1 (decide (0 ≤ q.since t) && decide (V.int (q.rest t) = V.int 0)) :=
      et_and (et_test (ev_op (ev_var rfl) ev_c rv_I0)) fun _ => et_test (ev_op (ev_var rfl) ev_c (rv_eq rfl))
    refine hb H1 (Ex.refl _) _ fun H2 e2 => ?_
    by_cases c : 0 ≤ q.since t ∧ q.rest t = 0
    · rw [if_pos c] at k
      refine (if_pos (by rw [decide_eq_true c.1, decide_eq_true (by rw [c.2])]; rfl)).mpr ⟨_, rfl, by show 1 ≤ sizeLine; decide, fun l hl => k l _ (fresh_back (e1.trans e2) hl) ((e1.trans e2).trans (Ex.new hl)) upd_same⟩
    · rw [if_neg c] at k
      refine (if_neg (fun z => c ?_)).mpr ⟨by show 0 ≤ sizeLine; decide, fun l hl => k l _ (fresh_back (e1.trans e2) hl) ((e1.trans e2).trans (Ex.new hl)) upd_same⟩
      have z2 := Bool.and_eq_true_iff.mp z
      exact ⟨of_decide_eq_true z2.1, V.int.inj (of_decide_eq_true z2.2)⟩
theorem c_over : Cal P w K mg base CX0 9 "over" (spOver K) := by
  refine T.d_over.cal sc_over (fun vs H Q E h => ?_) (fun f cdv A outer s H vs Q E g hr h => ?_)
  · obtain ⟨p, q, t, rfl, _⟩ := h
    rfl
  · obtain ⟨p, q, t, rfl, hq, k⟩ := h
    refine ⟨_, (pss_cons (ps_asg (ec (c_since_closing T) g hr (by decide) pass0 (by rfl) (pa_cons (pv 0) (pa_cons (pv 1) pa_nil))) (k_gtup (K := K) rfl (by rfl) (pgs_cons (pg_name (i := 2) sc_over.nd rfl (Or.inl rfl)) (pgs_cons (pg_name (i := 3) sc_over.nd rfl (Or.inl rfl)) pgs_nil))))
    (pss_one (ps_ret (pe_callB (call_max2 rfl) (by rfl) T.n_max (by decide +kernel) (pa_cons pe_int (pa_cons (pe_op op_add (pv 2) pe_int) pa_nil)))))), ?_⟩
    refine ⟨_, rfl, _, rfl, p, q, t, rfl, hq, fun u H1 u0 e1 hu => ?_⟩
    refine ⟨u, _, rfl, st_of hu, rfl, _, _, rfl, _, _, rfl, rfl, ?_⟩
    exact ⟨_, rfl, _, _, rfl, rfl, 0, _, rfl, k _ e1⟩
end
end K62
end
section
set_option Elab.async false
set_option linter.all false
set_option maxRecDepth 100000
set_option maxHeartbeats 4000000
namespace K62
local macro_rules | `(tactic| walk_at "pos") => `(tactic| (show (0 : Int) < _; first | decide | omega))
open PySem PySem.Spec PyProof.Rows L2 Lf 
open Evl
local macro_rules | `(tactic| walk_at "lk") => `(tactic| (simp (disch := decide +kernel) only [lk_hit, lk_miss, lk_nil]))
local macro_rules | `(tactic| walk_at "pf") => `(tactic| (simp (disch := decide +kernel) only [pf_hit, pf_miss, pf_nil]))
section
open Wm
section
variable {P : Program} {w : World} {K : PySem.W.Frag} {mg : Str → Option Value} {base : Heap} (T : Top K mg )
include T
theorem c_lw_same : Cal P w K mg base CX0 1 "_law_same" (spAlike K) := by
  refine T.d_lw_same.cal sc_lw_same (fun vs H Q E h => ?_) (fun f cdv A outer s H vs Q E g hr h => ?_)
  · obtain ⟨u, v, d, rfl, _⟩ := h
    rfl
  · obtain ⟨u, v, d, rfl, hu, hv, r, k⟩ := h
    refine ⟨_, (pss_one (ps_ret (pe_and (pe_cmpR (kop (K := K) (r := rEqD) (op_eqD hr.units) rfl) (pv 0) (pv 1) (nomark _)) (pe_one (pe_cmpR op_eq (pe_callB (kcr (K := K) (r := rRepr) (cr_repr g hr.units) rfl) (by rfl) T.n_repr (by decide +kernel) (pa_cons (pv 0) pa_nil)) (pe_callB (kcr (K := K) (r := rRepr) (cr_repr g hr.units) rfl) (by rfl) T.n_repr (by decide +kernel) (pa_cons (pv 1) pa_nil)) (nomark _)))))), ?_⟩
    exact s_ret (v := .bl (true && true)) (ev_andV (ev_op (ev_var rfl) (ev_var rfl) (rv_eqD hu hv r (by decide))) fun _ => ev_is (ev_op (ev_repr (ev_var rfl) hu r) (ev_repr (ev_var rfl) hv r) (rv_eq rfl)) (by rw [decide_eq_true rfl])) k
end
end
end K62
end
section
set_option Elab.async false
set_option linter.all false
set_option maxRecDepth 100000
set_option maxHeartbeats 4000000
namespace K62
local macro_rules | `(tactic| walk_at "pos") => `(tactic| (show (0 : Int) < _; first | decide | omega))
open PySem PySem.Spec PyProof.Rows L2 Lf 
open Evl
local macro_rules | `(tactic| walk_at "lk") => `(tactic| (simp (disch := decide +kernel) only [lk_hit, lk_miss, lk_nil]))
local macro_rules | `(tactic| walk_at "pf") => `(tactic| (simp (disch := decide +kernel) only [pf_hit, pf_miss, pf_nil]))
def Good (ns : List Int) : Prop := Rise ns ∧ ns ≠ [] ∧ ns.length ≤ 10 ∧ ∀ n ∈ ns, 0 ≤ n ∧ n ≤ 9
def spPlaces (K : PySem.W.Frag) : Sp := fun vs H Q _ => ∃ (b : Addr × Addr), vs = [.ref b.1] ∧ Bag H b ∧ ∀ H' v o, Step b H H' → PlAt K H' v o → (∀ ns, o = some ns → Good ns) → Q v H'
def spTerms (K : PySem.W.Frag) : Sp := fun vs H Q _ => ∃ (b : Addr × Addr) (first : Int), vs = [.ref b.1, .int first] ∧ Bag H b ∧ (0 ≤ first ∧ first ≤ 1000) ∧ ∀ H' u (q : Qu) v, Step b H H' → H u = none → H' u = some (.tup (q.tail v)) → PlAt K H' v q.places → q.Ok → q.first = first → q.n = 1 → Q (.ref u) H'
theorem rise_snoc {ns : List Int} {x : Int} (h : Rise ns) (hx : ∀ n ∈ ns, n < x) : Rise (ns ++ [x]) := by
  intro i a b ha hb
  have hi := (List.getElem?_eq_some_iff.mp hb).1
  rw [List.length_append] at hi
  have hi : i + 1 < ns.length + 1 := hi
  rw [List.getElem?_append_left (by omega)] at ha
  by_cases c : i + 1 < ns.length
  · rw [List.getElem?_append_left c] at hb
    exact h i a b ha hb
  · rw [List.getElem?_append_right (by omega), show i + 1 - ns.length = 0 from by omega] at hb
    cases hb
    exact hx a (List.mem_of_getElem? ha)
section
variable {P : Program} {w : World} {K : PySem.W.Frag} {mg : Str → Option Value} {base : Heap} (T : Top K mg )
include T
theorem c_lw_places : Cal P w K mg base CX0 2 "_law_places" (spPlaces K) := by
  refine T.d_lw_places.cal sc_lw_places (fun vs H Q E h => ?_) (fun f cdv A outer s H vs Q E g hr h => ?_)
  · obtain ⟨b, rfl, _⟩ := h
    rfl
  · obtain ⟨b, rfl, hb, k⟩ := h
    refine ⟨_, (pss_cons (ps_if (pt_cmpR op_eq (ec (c_lw_take T) g hr (by decide) pass0 (by rfl) (pa_cons (pv 0) (pa_cons pe_int pa_nil))) pe_int (nomark _)) (pss_one (ps_ret pe_non)) pss_nil)
    (pss_cons (ps_setLc (i := 1) (own := [("_law_place", 2)]) (g := (gName 2)) (by rfl) sc_lw_places.nd rfl rfl (sw_true rfl rfl rfl (by decide +kernel)) (pi_range1 (by rfl) T.n_range (pa_cons pe_int pa_nil)) (blkOk_by (own := [("_law_place", 2)]) (N := ns_lw_places) (sc := defScope s_lw_places) (by decide +kernel)) (fun _ _ _ _ _ => (pg_name (i := 2) sc_lw_places.nd rfl (Or.inl rfl))) (fun _ _ _ _ _ => pts_one (pt_cmpR op_eq (ec (c_lw_take T) g hr (by decide) pass0 (by rfl) (pa_cons (pv 0) (pa_cons pe_int pa_nil))) pe_int (nomark _))) (fun _ _ _ _ _ => (pv 2)))
    (pss_one (ps_ret (pe_callTy (k_tpl (K := K) rfl) (by rfl) T.n_tuple (by decide +kernel) (pa_cons (pe_op op_cat (pv 1) (pe_op op_rep (pe_lst (pa_cons pe_int pa_nil)) (pe_callTy call_int1 (by rfl) T.n_int (by decide +kernel) (pa_cons (pe_cmpR (kop (K := K) (r := rEqD) (op_eqD hr.units) rfl) (pv 1) (pe_lst pa_nil) (nomark _)) pa_nil)))) pa_nil)))))), ?_⟩
    refine q_any (tany_dri (c := 0) hb (dri_tk rfl (by decide) (by decide))) (fun H1 s1 => k H1 .non none s1 rfl fun ns z => nomatch z) fun H1 s1 => ?_
    dsimp only [tNext]
    refine q_asgX (R := fun v H2 => ∃ (l : Addr) (ns : List Int), v = .ref l ∧ Step b H1 H2 ∧ H2 l = some (.lst (ns.map V.int)) ∧ Rise ns ∧ (∀ n ∈ ns, 0 ≤ n ∧ n < 10) ∧ ns.length ≤ 10) ?_ ?_
    · intro Q' qq
      refine ⟨10, rfl, by omega, by omega, fun D hD => lc_range (lo := 0) (n := 10) (fun i H2 => ∃ (ns : List Int), H2 D = some (.lst (ns.map V.int)) ∧ Step b H1 H2 ∧ Rise ns ∧ (∀ n ∈ ns, 0 ≤ n ∧ n < (i : Int)) ∧ ns.length ≤ i) ⟨[], upd_same, .pure s1.1 (Ex.new hD), (fun i a b h => by cases h), (fun n h => by cases h), Nat.le_refl _⟩ ?_ ?_⟩
      · rintro i H2 hi ⟨ns, h1, s2, h3, h4, h5⟩
        refine ⟨rfl, tany_dri (c := 0) s2.1 (dri_tk rfl (by decide) (by decide)) _ fun c H3 s3 => ?_⟩
        have nD := s1.1.ne hD
        cases c with
        | false => exact ⟨ns, s3.at nD h1, s2.trans s3, h3, fun n hn => ⟨(h4 n hn).1, by have := (h4 n hn).2; omega⟩, by omega⟩
        | true =>
          have e0 : (0 : Int) + (i : Int) = (i : Int) := Int.zero_add _
          refine (if_pos rfl).mpr ⟨_, rfl, ns.map V.int, s3.at nD h1, by rw [List.length_map]; exact Nat.lt_of_le_of_lt (show ns.length ≤ 10 from by omega) (by decide), ns ++ [(i : Int)], ?_, (s2.trans s3).put s1.1 hD, rise_snoc h3 fun n hn => (h4 n hn).2, fun n hn => ?_, by rw [List.length_append]; show ns.length + 1 ≤ i + 1; omega⟩
          · rw [upd_same, List.map_append, e0]
            rfl
          · rcases List.mem_append.mp hn with hn | hn
            · exact ⟨(h4 n hn).1, by have := (h4 n hn).2; omega⟩
            · rw [List.mem_singleton.mp hn]
              omega
      · rintro H2 ⟨ns, h1, s2, h3, h4, h5⟩
        exact qq _ _ ⟨D, ns, rfl, s2, h1, h3, h4, h5⟩
    · rintro _ H2 ⟨l, ns, rfl, s2, hl, h3, h4, h5⟩
      dsimp only [gName]
      have en : Ev (tCB (fun xs H Q => (∃ i, xs = [V.int i] ∧ Q (V.int i) H) ∨ ∃ k, xs = [V.bl k] ∧ Q (V.int (if k = true then 1 else 0)) H) (tCons (tOp (rEqD K) (tVar 1) (tLst tNil)) tNil)) [some (V.ref b.1), some (V.ref l), none] H2 (.int ((if ns = [] then 1 else 0 : Nat) : Int)) := by
        have sh : Wm.Sh 2 (.list (ns.map PyData.int)) := Wm.Sh.list (n := 1) fun d hd => by
          obtain ⟨n, _, rfl⟩ := List.mem_map.mp hd
          exact (Wm.Sh.int n).mono (by decide)
        have ev := ev_opL (r := rEqD K) (x := .ref l) (z := .bl (PyData.eqv (.list (ns.map PyData.int)) (.list []))) (ev_var (σ := [some (V.ref b.1), some (V.ref l), none]) (H := H2) (i := 1) rfl) (el_lst ea_nil (Nat.zero_le _)) fun p' H4 hp' e4 => rv_eqD2 (.lst (sq_of (e4 _ _ hl)) Dps.ints) (.lst (sq_of hp') .nil) sh (Wm.Sh.list (n := 1) fun d hd => by cases hd) (by decide) (by decide)
        refine ev_is (ev_cb (ea_cons ev ea_nil) (fun H3 e3 Q q => .inr ⟨_, rfl, q H3 (Ex.refl _)⟩)) ?_
        cases ns with
        | nil => rfl
        | cons a r => rfl
      refine ⟨_, rfl, el_rep ev_c en (by split <;> omega) H2 (Ex.refl _) _ fun r H3 r0 e3 hr => ⟨l, r, _, _, rfl, rfl, e3 _ _ hl, hr, ?_, fun p hp => ⟨p, _, rfl, .inl ⟨sq_of upd_same, fun t ht => ?_⟩⟩⟩⟩
      · rw [List.length_map, List.length_replicate]
        have : (if ns = [] then 1 else 0 : Nat) ≤ 1 := by split <;> omega
        exact Nat.le_trans (show _ ≤ 11 by omega) (by decide)
      · have s4 : Step b H (upd (upd H3 p (.lst (ns.map V.int ++ List.replicate (if ns = [] then 1 else 0) (V.int 9)))) t (.tup (ns.map V.int ++ List.replicate (if ns = [] then 1 else 0) (V.int 9)))) := (s1.trans s2).trans (.pure s2.1 ((e3.trans (Ex.new hp)).trans (Ex.new ht)))
        refine k _ (.ref t) (some (if ns = [] then [9] else ns)) s4 ⟨t, rfl, ?_⟩ fun ns' z => ?_
        · refine st_of ?_
          rw [upd_same]
          cases ns with
          | nil => rfl
          | cons a r => rw [if_neg (by simp), if_neg (by simp)]; simp
        · cases z
          cases ns with
          | nil =>
            rw [if_pos rfl]
            exact ⟨(fun i a b h h2 => by cases h2), (by simp), (by decide), fun n hn => by rw [List.mem_singleton.mp hn]; decide⟩
          | cons a r =>
            rw [if_neg (by simp)]
            exact ⟨h3, by simp, h5, fun n hn => ⟨(h4 n hn).1, by have := (h4 n hn).2; omega⟩⟩
end
end K62
end
section
set_option Elab.async false
set_option linter.all false
set_option maxRecDepth 100000
set_option maxHeartbeats 4000000
namespace K62
local macro_rules | `(tactic| walk_at "pos") => `(tactic| (show (0 : Int) < _; first | decide | omega))
open PySem PySem.Spec PyProof.Rows L2 Lf 
open Evl
local macro_rules | `(tactic| walk_at "lk") => `(tactic| (simp (disch := decide +kernel) only [lk_hit, lk_miss, lk_nil]))
local macro_rules | `(tactic| walk_at "pf") => `(tactic| (simp (disch := decide +kernel) only [pf_hit, pf_miss, pf_nil]))
section
variable {P : Program} {w : World} {K : PySem.W.Frag} {mg : Str → Option Value} {base : Heap} (T : Top K mg )
include T
theorem c_lw_terms : Cal P w K mg base CX0 3 "_law_terms" (spTerms K) := by
  refine T.d_lw_terms.cal sc_lw_terms (fun vs H Q E h => ?_) (fun f cdv A outer s H vs Q E g hr h => ?_)
  · obtain ⟨b, fi, rfl, _⟩ := h
    rfl
  · obtain ⟨b, fi, rfl, hb, hf, k⟩ := h
    refine ⟨_, (pss_cons (ps_set (i := 2) sc_lw_terms.nd rfl (Or.inl rfl) (pe_ix (kix (K := K) (r := rIxL) ix_list rfl) (pe_lst (pa_cons pe_int (pa_cons pe_int (pa_cons (pe_op op_add pe_int (ec (c_lw_take T) g hr (by decide) pass0 (by rfl) (pa_cons (pv 0) (pa_cons pe_int pa_nil)))) (pa_cons pe_int pa_nil))))) (ec (c_lw_take T) g hr (by decide) pass0 (by rfl) (pa_cons (pv 0) (pa_cons pe_int pa_nil))) (fun _ _ => rfl)))
    (pss_cons (ps_set (i := 3) sc_lw_terms.nd rfl (Or.inl rfl) (pe_op op_add pe_int (ec (c_lw_take T) g hr (by decide) pass0 (by rfl) (pa_cons (pv 0) (pa_cons (pe_callB (call_min2 rfl) (by rfl) T.n_min (by decide +kernel) (pa_cons pe_int (pa_cons (pe_op op_mul pe_int (pv 2)) pa_nil))) pa_nil)))))
    (pss_cons (ps_set (i := 4) sc_lw_terms.nd rfl (Or.inl rfl) (pe_ix (kix (K := K) (r := rIxL) ix_list rfl) (pe_lst (pa_cons pe_int (pa_cons pe_int (pa_cons (ec (c_lw_take T) g hr (by decide) pass0 (by rfl) (pa_cons (pv 0) (pa_cons pe_int pa_nil))) (pa_cons (ec (c_lw_take T) g hr (by decide) pass0 (by rfl) (pa_cons (pv 0) (pa_cons pe_int pa_nil))) pa_nil))))) (ec (c_lw_take T) g hr (by decide) pass0 (by rfl) (pa_cons (pv 0) (pa_cons pe_int pa_nil))) (fun _ _ => rfl)))
    (pss_one (ps_ret (pe_tup (pa_cons (ec (c_lw_take T) g hr (by decide) pass0 (by rfl) (pa_cons (pv 0) (pa_cons pe_int pa_nil))) (pa_cons (ec (c_lw_places T) g hr (by decide) pass0 (by rfl) (pa_cons (pv 0) pa_nil)) (pa_cons (pv 1) (pa_cons (pv 2) (pa_cons (pv 3) (pa_cons (pv 4) pa_nil)))))))))))), ?_⟩
    refine q_dri (p := fun x => 1 ≤ x ∧ x ≤ 20) hb (dri_pick (n := 4) (dra_cons (DrI.dr (dri_c (by omega))) (dra_cons (DrI.dr (dri_c (by omega))) (dra_cons (DrI.dr (dri_I0 (p := fun x => x = 1) (q := fun x => 0 ≤ x ∧ x < 20) (dri_c rfl) (dri_tk rfl (by decide) (by decide)) (by intros; omega))) (dra_cons (DrI.dr (dri_c (by omega))) (dra_nil rfl))))) (dri_tk rfl (by decide) (by decide)) (by decide)) fun ev H1 s1 hev => ?_
    refine q_dri (p := fun x => 1 ≤ x ∧ x ≤ 8 ∧ x ≤ 2 * ev) s1.1 (dri_I0 (p := fun x => x = 1) (q := fun x => 0 ≤ x ∧ x < 8 ∧ x < 2 * ev) (dri_c rfl) (dri_take rfl (dri_ev (i := if 2 * ev < 8 then 2 * ev else 8) (fun H2 s2 => ev_cb (ea_cons ev_c (ea_cons (ev_op ev_c (ev_var rfl) (rv_I (.inl ⟨by decide, by decide⟩))) ea_nil)) (fun H3 e3 Q q => ⟨8, 2 * ev, rfl, q H3 (Ex.refl _)⟩)) ⟨⟨by split <;> omega, by split <;> omega⟩, fun v v0 v1 => ⟨v0, by split at v1 <;> omega, by split at v1 <;> omega⟩⟩)) (by intros; omega)) fun le H2 s2 hle => ?_
    refine q_dri (p := fun x => 0 ≤ x ∧ x ≤ 200) s2.1 (dri_pick (n := 4) (dra_cons (DrI.dr (dri_c (by omega))) (dra_cons (DrI.dr (dri_c (by omega))) (dra_cons (DrI.dr ((dri_tk rfl (by decide) (by decide)).imp fun i h => ⟨h.1, by omega⟩)) (dra_cons (DrI.dr ((dri_tk rfl (by decide) (by decide)).imp fun i h => ⟨h.1, by omega⟩)) (dra_nil rfl))))) (dri_tk rfl (by decide) (by decide)) (by decide)) fun la H3 s3 hla => ?_
    have s03 := (s1.trans s2).trans s3
    refine ⟨_, rfl, b, 10, rfl, s3.1, ⟨by decide, by decide⟩, fun so H4 v0 v1 b4 d4 => ⟨_, rfl, b, rfl, b4, fun H5 v o s5 hp hg => ⟨_, rfl, _, rfl, _, rfl, _, rfl, by show 6 ≤ sizeLine; decide, fun u hu => ?_⟩⟩⟩
    have s05 := (s03.trans (.draw b4 d4)).trans s5
    exact k _ u ⟨1, so, o, fi, ev, le, la⟩ v (s05.trans (.pure s5.1 (Ex.new hu))) (s05.free hu) upd_same (hp.ex (Ex.new hu)) ⟨Int.le_refl _, ⟨v0, by show so ≤ 9; omega⟩, hg, ⟨hf.1, by show fi ≤ 1000000; omega⟩, hev, ⟨hle.1, hle.2.1, hle.2.2⟩, hla⟩ rfl rfl
end
end K62
end
section
set_option Elab.async false
set_option linter.all false
set_option maxRecDepth 100000
set_option maxHeartbeats 4000000
namespace K62
local macro_rules | `(tactic| walk_at "pos") => `(tactic| (show (0 : Int) < _; first | decide | omega))
open PySem PySem.Spec PyProof.Rows L2 Lf 
open Evl
local macro_rules | `(tactic| walk_at "lk") => `(tactic| (simp (disch := decide +kernel) only [lk_hit, lk_miss, lk_nil]))
local macro_rules | `(tactic| walk_at "pf") => `(tactic| (simp (disch := decide +kernel) only [pf_hit, pf_miss, pf_nil]))
def turnsOf (q : Qu) (i : Nat) : List Int := (List.range q.length.toNat).map fun k : Nat => q.first + (i : Int) * q.every + (k : Int)
def RowAt (H : Hp) (v : V) (q : Qu) (i : Nat) : Prop := ∃ u z, v = .ref u ∧ H u = some (.tup [.int (i : Int), .ref z, .int (q.closes (i : Int))]) ∧ H z = some (.lst ((turnsOf q i).map V.int))
def RowsAt (H : Hp) (r : Addr) (q : Qu) (N : Nat) : Prop := ∃ vs, H r = some (.lst vs) ∧ vs.length = N ∧ ∀ (i : Nat) v, vs[i]? = some v → RowAt H v q i
theorem RowAt.ex {H H' : Hp} {v : V} {q : Qu} {i : Nat} (h : RowAt H v q i) (e : Ex H H') : RowAt H' v q i := let ⟨u, z, h1, h2, h3⟩ := h; ⟨u, z, h1, e _ _ h2, e _ _ h3⟩
theorem RowsAt.ex {H H' : Hp} {r : Addr} {q : Qu} {N : Nat} (h : RowsAt H r q N) (e : Ex H H') : RowsAt H' r q N := let ⟨vs, h1, h2, h3⟩ := h; ⟨vs, e _ _ h1, h2, fun i v hv => (h3 i v hv).ex e⟩
theorem rgV_snoc {lo hi : Int} (h : lo ≤ hi) : rgV lo (hi + 1) = rgV lo hi ++ [.int hi] := by
  unfold rgV
  rw [show (hi + 1 - lo).toNat = (hi - lo).toNat + 1 from by omega, List.range_succ, List.map_append]
  show _ ++ [V.int (lo + ((hi - lo).toNat : Int))] = _
  rw [show lo + ((hi - lo).toNat : Int) = hi from by omega]
theorem rgV_nil {lo hi : Int} (h : hi ≤ lo) : rgV lo hi = [] := by
  unfold rgV
  rw [show (hi - lo).toNat = 0 from by omega]
  rfl
theorem given_rg {lo hi : Int} (h0 : 0 ≤ lo) : ∀ N : Nat, given N (fun i => decide (lo ≤ (i : Int) ∧ (i : Int) < hi)) (fun i => .int (i : Int)) = rgV lo (if hi ≤ (N : Int) then hi else (N : Int))
  | 0 => by
    rw [rgV_nil (by split <;> omega)]
    rfl
  | N + 1 => by
    have ih := given_rg (hi := hi) h0 N
    by_cases c : lo ≤ (N : Int) ∧ (N : Int) < hi
    · rw [given_yes (decide_eq_true c), ih, if_neg (by omega)]
      have : (if hi ≤ ((N + 1 : Nat) : Int) then hi else ((N + 1 : Nat) : Int)) = (N : Int) + 1 := by split <;> omega
      rw [this, rgV_snoc c.1]
    · rw [given_no (decide_eq_false c), ih]
      by_cases c1 : (N : Int) < lo
      · rw [rgV_nil (by split <;> omega), rgV_nil (by split <;> omega)]
      · have : ¬ (N : Int) < hi := fun z => c ⟨by omega, z⟩
        rw [if_pos (by omega), if_pos (by omega)]
theorem in_turns {q : Qu} {i : Nat} {t : Int} (hl : 0 ≤ q.length) : t ∈ turnsOf q i ↔ q.first + (i : Int) * q.every ≤ t ∧ t < q.first + (i : Int) * q.every + q.length := by
  unfold turnsOf
  generalize q.first + (i : Int) * q.every = a
  constructor
  · intro h
    obtain ⟨k, hk, rfl⟩ := List.mem_map.mp h
    have := List.mem_range.mp hk
    omega
  · rintro ⟨h1, h2⟩
    exact List.mem_map.mpr ⟨(t - a).toNat, List.mem_range.mpr (by omega), by omega⟩
theorem win_iff {q : Qu} (h : q.Ok) {t : Int} {i : Nat} : (q.first + (i : Int) * q.every ≤ t ∧ t < q.first + (i : Int) * q.every + q.length) ↔ (q.ended t ≤ (i : Int) ∧ (i : Int) < q.begun t) := by
  have he := h.every.1
  have a1 : (i : Int) < q.begun t ↔ (i : Int) * q.every ≤ t - q.first := by
    unfold Qu.begun
    rw [Int.lt_add_one_iff]
    exact Int.le_ediv_iff_mul_le (by omega)
  have a2 : (t - q.first - q.length) / q.every < (i : Int) ↔ t - q.first - q.length < (i : Int) * q.every := Int.ediv_lt_iff_lt_mul (by omega)
  have a3 : q.ended t ≤ (i : Int) ↔ (t - q.first - q.length) / q.every < (i : Int) := by
    unfold Qu.ended
    split <;> omega
  rw [a1, a3, a2]
  omega
theorem closes_iff {q : Qu} (h : q.Ok) {t : Int} {i : Nat} : q.closes (i : Int) = t ↔ (q.rest t = 0 ∧ q.since t = (i : Int)) := by
  have he := h.every.1
  have e : q.closes (i : Int) = q.closes 0 + (i : Int) * q.every := by unfold Qu.closes; omega
  have d := Int.mul_ediv_add_emod (t - q.closes 0) q.every
  unfold Qu.rest Qu.since
  rw [e]
  constructor
  · intro z
    have : t - q.closes 0 = (i : Int) * q.every := by omega
    rw [this]
    exact ⟨Int.mul_emod_left _ _, Int.mul_ediv_cancel _ (by omega)⟩
  · rintro ⟨z1, z2⟩
    rw [z1, z2, Int.mul_comm] at d
    omega
theorem gone_iff {q : Qu} (h : q.Ok) {t : Int} {i : Nat} : q.closes (i : Int) ≤ t ↔ (i : Int) < q.since t + 1 := by
  have he := h.every.1
  have e : q.closes (i : Int) = q.closes 0 + (i : Int) * q.every := by unfold Qu.closes; omega
  unfold Qu.since
  rw [e, Int.lt_add_one_iff, Int.le_ediv_iff_mul_le (by omega)]
  omega
end K62
end
section
set_option Elab.async false
set_option linter.all false
set_option maxRecDepth 100000
set_option maxHeartbeats 4000000
namespace K62
local macro_rules | `(tactic| walk_at "pos") => `(tactic| (show (0 : Int) < _; first | decide | omega))
open PySem PySem.Spec PyProof.Rows L2 Lf 
open Evl
local macro_rules | `(tactic| walk_at "lk") => `(tactic| (simp (disch := decide +kernel) only [lk_hit, lk_miss, lk_nil]))
local macro_rules | `(tactic| walk_at "pf") => `(tactic| (simp (disch := decide +kernel) only [pf_hit, pf_miss, pf_nil]))
theorem inV_ints (t : Int) (ns : List Int) : inV (.int t) (ns.map V.int) = decide (t ∈ ns) := by
  unfold inV
  rw [List.any_map]
  by_cases h : t ∈ ns
  · rw [decide_eq_true h]
    exact List.any_eq_true.mpr ⟨t, h, by show eqV (.int t) (.int t) = true; simp [eqV]⟩
  · rw [decide_eq_false h]
    refine List.any_eq_false.mpr fun x hx z => h ?_
    have z : eqV (.int x) (.int t) = true := z
    simp [eqV] at z
    exact z ▸ hx
theorem flat_ints (ns : List Int) : (ns.map V.int).all flatV = true := List.all_eq_true.mpr fun x hx => by
  obtain ⟨n, _, rfl⟩ := List.mem_map.mp hx
  rfl
theorem rg_ints (lo hi : Int) : rgV lo hi = ((List.range (hi - lo).toNat).map fun i : Nat => lo + (i : Int)).map V.int := by
  unfold rgV
  rw [List.map_map]
  rfl
theorem rg_dp {K : PySem.W.Frag} {H : Hp} {p : Addr} {lo hi : Int} (h : H p = some (.lst (rgV lo hi))) : Dp K H (.ref p) (.list (((List.range (hi - lo).toNat).map fun i : Nat => lo + (i : Int)).map PyData.int)) := by
  rw [rg_ints] at h
  exact .lst (sq_of h) Dps.ints
theorem rep_small {ns : List Int} (h : ∀ n ∈ ns, n.natAbs < 10 ^ 12) (hl : ns.length ≤ 10000) : Wm.Rep 60 1000000 (.list (ns.map PyData.int)) := by
  have r := Wm.Rep.list (n := 0) (w := 40) (ds := ns.map PyData.int) fun d hd => by
    obtain ⟨n, hn, rfl⟩ := List.mem_map.mp hd
    exact Wm.Rep.int (h n hn)
  refine r.mono (by decide) ?_
  rw [List.length_map]
  omega
section
variable {K : PySem.W.Frag}
/-- [w for w, turns, last in rows if ..] -/
theorem el_rows {σ : L2.St} {H : Hp} {r : Addr} {q : Qu} {N : Nat} {tt : TT} {j : Nat} {vs : List Nat} (f : Nat → Bool) (hv : σ[j]? = some (some (.ref r))) (hr : RowsAt H r q N) (hN : N ≤ 40000)
    (hw : ∀ x y z, wipe ((((wipe σ vs).set 9 (some x)).set 10 (some y)).set 11 (some z)) vs = wipe σ vs)
    (h9 : ∀ x y z, ((((wipe σ vs).set 9 (some x)).set 10 (some y)).set 11 (some z))[9]? = some (some x))
    (ht : ∀ (i : Nat) (z : Addr) H1, Ex H H1 → i < N → H1 z = some (.lst ((turnsOf q i).map V.int)) → EvT tt ((((wipe σ vs).set 9 (some (.int (i : Int)))).set 10 (some (.ref z))).set 11 (some (.int (q.closes (i : Int))))) H1 (f i)) :
    EvL (tLc (iList K (tVar j)) (gTup K 3 (gCons (gName 9) (gCons (gName 10) (gCons (gName 11) gNil)))) tt (tVar 9) vs) σ H (given N f (fun i => .int (i : Int))) := fun H1 e Q k => by
  obtain ⟨rows, g1, g2, g3⟩ := hr.ex e
  refine ⟨_, hv, r, rfl, ⟨_, sq_of g1⟩, fun D hD => lc_list (xs := rows) (Cw H1 f (fun i => .int (i : Int)) D) ⟨hD, Ex.new hD, upd_same⟩ (fun i H' _ p => sq_of (p.2.1 _ _ g1)) (fun i x H' hx p => ?_) (fun H' p => ?_)⟩
  · obtain ⟨u, z, rfl, hu, hz⟩ := g3 i x hx
    have hi : i < N := by rw [← g2]; exact (List.getElem?_eq_some_iff.mp hx).1
    refine ⟨u, _, rfl, st_of (p.2.1 _ _ hu), rfl, _, _, rfl, _, _, rfl, _, _, rfl, rfl, hw _ _ _, ?_⟩
    exact cw_turn p (by omega) (ht i z H1 e hi hz) fun _ => ev_var (h9 _ _ _)
  · rw [g2] at p
    exact k D H' p.1 p.2.1 p.2.2
end
def spTurn (K : PySem.W.Frag) : Sp := fun vs H Q _ => ∃ (p r : Addr) (t : Int) (q : Qu) (N : Nat), vs = [.ref p, .int t, .ref r] ∧ QAt K H p q ∧ RowsAt H r q N ∧ (1 ≤ N ∧ N ≤ 1000) ∧ (0 ≤ t ∧ t ≤ 1000000) ∧ t < q.first + ((N : Int) - 1) * q.every ∧ ∀ H', Ex H H' → Q (.bl true) H'
theorem begun_le {q : Qu} (h : q.Ok) {t : Int} {N : Nat} (ht : t < q.first + ((N : Int) - 1) * q.every) : q.begun t ≤ (N : Int) := by
  have he := h.every.1
  unfold Qu.begun
  have : (t - q.first) / q.every < (N : Int) - 1 := (Int.ediv_lt_iff_lt_mul (by omega)).mpr (by omega)
  omega
theorem since_lt {q : Qu} (h : q.Ok) {t : Int} {N : Nat} (ht : t < q.first + ((N : Int) - 1) * q.every) : q.since t < (N : Int) := by
  have he := h.every.1
  have hl := h.length
  have hg := h.lag
  unfold Qu.since
  have : (t - q.closes 0) / q.every < (N : Int) - 1 := (Int.ediv_lt_iff_lt_mul (by omega)).mpr (by unfold Qu.closes; omega)
  omega
theorem ended_le {q : Qu} (h : q.Ok) {t : Int} : 0 ≤ q.ended t := by unfold Qu.ended; split <;> omega
theorem win_given {q : Qu} (h : q.Ok) {t : Int} {N : Nat} (ht : t < q.first + ((N : Int) - 1) * q.every) : given N (fun i => decide (t ∈ turnsOf q i)) (fun i => .int (i : Int)) = rgV (q.ended t) (q.begun t) := by
  have e : (fun i : Nat => decide (t ∈ turnsOf q i)) = fun i : Nat => decide (q.ended t ≤ (i : Int) ∧ (i : Int) < q.begun t) := by
    funext i
    exact decide_eq_decide.mpr ((in_turns (by have := h.length; omega)).trans (win_iff h))
  rw [e, given_rg (ended_le h), if_pos (begun_le h ht)]
theorem shut_given {q : Qu} (h : q.Ok) {t : Int} {N : Nat} (ht : t < q.first + ((N : Int) - 1) * q.every) : given N (fun i => decide (V.int (q.closes (i : Int)) = V.int t)) (fun i => .int (i : Int)) = if 0 ≤ q.since t ∧ q.rest t = 0 then [.int (q.since t)] else [] := by
  by_cases c : 0 ≤ q.since t ∧ q.rest t = 0
  · have e : (fun i : Nat => decide (V.int (q.closes (i : Int)) = V.int t)) = fun i : Nat => decide (q.since t ≤ (i : Int) ∧ (i : Int) < q.since t + 1) := by
      funext i
      refine decide_eq_decide.mpr ⟨fun z => ?_, fun z => ?_⟩
      · have := (closes_iff h).mp (V.int.inj z)
        omega
      · exact congrArg V.int ((closes_iff h).mpr ⟨c.2, by omega⟩)
    rw [e, given_rg c.1, if_pos (by have := since_lt h ht; omega), if_pos c, rgV_snoc (Int.le_refl _), rgV_nil (Int.le_refl _)]
    rfl
  · have e : (fun i : Nat => decide (V.int (q.closes (i : Int)) = V.int t)) = fun i : Nat => decide ((0 : Int) ≤ (i : Int) ∧ (i : Int) < 0) := by
      funext i
      refine decide_eq_decide.mpr ⟨fun z => ?_, fun z => by omega⟩
      have := (closes_iff h).mp (V.int.inj z)
      exact absurd ⟨by omega, this.1⟩ c
    rw [e, given_rg (by omega), if_neg c, rgV_nil (by split <;> omega)]
theorem gone_given {q : Qu} (h : q.Ok) {t : Int} {N : Nat} (ht : t < q.first + ((N : Int) - 1) * q.every) : ((given N (fun i => decide (q.closes (i : Int) ≤ t)) (fun i => .int (i : Int))).length : Int) = if q.since t + 1 > 0 then q.since t + 1 else 0 := by
  have e : (fun i : Nat => decide (q.closes (i : Int) ≤ t)) = fun i : Nat => decide ((0 : Int) ≤ (i : Int) ∧ (i : Int) < q.since t + 1) := by
    funext i
    refine decide_eq_decide.mpr ?_
    rw [gone_iff h]
    omega
  have := since_lt h ht
  rw [e, given_rg (by omega), if_pos (by omega), rgV_length]
  split <;> omega
end K62
end
section
set_option Elab.async false
set_option linter.all false
set_option maxRecDepth 100000
set_option maxHeartbeats 4000000
namespace K62
local macro_rules | `(tactic| walk_at "pos") => `(tactic| (show (0 : Int) < _; first | decide | omega))
open PySem PySem.Spec PyProof.Rows L2 Lf 
open Evl
local macro_rules | `(tactic| walk_at "lk") => `(tactic| (simp (disch := decide +kernel) only [lk_hit, lk_miss, lk_nil]))
local macro_rules | `(tactic| walk_at "pf") => `(tactic| (simp (disch := decide +kernel) only [pf_hit, pf_miss, pf_nil]))
theorem sv_alike {K : PySem.W.Frag} {H : Hp} {u v : V} {d : PyData} (hu : Dp K H u d) (hv : Dp K H v d) (r : Wm.Rep 60 1000000 d) : SV (Wm.spAlike K) [u, v] H (.bl true) := fun H1 e1 Q q E => ⟨u, v, d, rfl, dp_ex e1 _ _ hu, dp_ex e1 _ _ hv, r, q⟩
theorem rep_int {i : Int} (h : i.natAbs < 10 ^ 12) : Wm.Rep 60 1000000 (.int i) := (Wm.Rep.int h).mono (by decide) (by decide)
section
variable {P : Program} {w : World} {K : PySem.W.Frag} {mg : Str → Option Value} {base : Heap} (T : Top K mg )
include T
theorem c_lw_turn_right : Cal P w K mg base CX0 10 "_law_turn_right" (spTurn K) := by
  refine T.d_lw_turn_right.cal sc_lw_turn_right (fun vs H Q E h => ?_) (fun f cdv A outer s H vs Q E g hr h => ?_)
  · obtain ⟨p, r, t, q, N, rfl, _⟩ := h
    rfl
  · obtain ⟨p, r, t, q, N, rfl, hq, hrows, hN, ht, htn, k⟩ := h
    have ok := hq.1
    refine ⟨_, (pss_cons (ps_setLc (i := 3) (own := [("_law_w", 9), ("_law_turns", 10), ("_law_last", 11)]) (g := (gTup K 3 (gCons (gName 9) (gCons (gName 10) (gCons (gName 11) gNil))))) (by rfl) sc_lw_turn_right.nd rfl rfl (sw_true rfl rfl rfl (by decide +kernel)) (k_list (K := K) rfl (pv 2)) (blkOk_by (own := [("_law_w", 9), ("_law_turns", 10), ("_law_last", 11)]) (N := ns_lw_turn_right) (sc := defScope s_lw_turn_right) (by decide +kernel)) (fun _ _ _ _ _ => (k_gtup (K := K) rfl (by rfl) (pgs_cons (pg_name (i := 9) sc_lw_turn_right.nd rfl (Or.inl rfl)) (pgs_cons (pg_name (i := 10) sc_lw_turn_right.nd rfl (Or.inl rfl)) (pgs_cons (pg_name (i := 11) sc_lw_turn_right.nd rfl (Or.inl rfl)) pgs_nil))))) (fun _ _ _ _ _ => pts_one (pt_cmpR (kop (K := K) (r := fun K => rIn K false) op_in_seq rfl) (pv 1) (pv 10) rfl)) (fun _ _ _ _ _ => (pv 9)))
    (pss_cons (ps_setLc (i := 4) (own := [("_law_w", 9), ("_law_turns", 10), ("_law_last", 11)]) (g := (gTup K 3 (gCons (gName 9) (gCons (gName 10) (gCons (gName 11) gNil))))) (by rfl) sc_lw_turn_right.nd rfl rfl (sw_true rfl rfl rfl (by decide +kernel)) (k_list (K := K) rfl (pv 2)) (blkOk_by (own := [("_law_w", 9), ("_law_turns", 10), ("_law_last", 11)]) (N := ns_lw_turn_right) (sc := defScope s_lw_turn_right) (by decide +kernel)) (fun _ _ _ _ _ => (k_gtup (K := K) rfl (by rfl) (pgs_cons (pg_name (i := 9) sc_lw_turn_right.nd rfl (Or.inl rfl)) (pgs_cons (pg_name (i := 10) sc_lw_turn_right.nd rfl (Or.inl rfl)) (pgs_cons (pg_name (i := 11) sc_lw_turn_right.nd rfl (Or.inl rfl)) pgs_nil))))) (fun _ _ _ _ _ => pts_one (pt_cmpR op_eq (pv 11) (pv 1) (nomark _))) (fun _ _ _ _ _ => (pv 9)))
    (pss_cons (ps_setLc (i := 5) (own := [("_law_w", 9), ("_law_turns", 10), ("_law_last", 11)]) (g := (gTup K 3 (gCons (gName 9) (gCons (gName 10) (gCons (gName 11) gNil))))) (by rfl) sc_lw_turn_right.nd rfl rfl (sw_true rfl rfl rfl (by decide +kernel)) (k_list (K := K) rfl (pv 2)) (blkOk_by (own := [("_law_w", 9), ("_law_turns", 10), ("_law_last", 11)]) (N := ns_lw_turn_right) (sc := defScope s_lw_turn_right) (by decide +kernel)) (fun _ _ _ _ _ => (k_gtup (K := K) rfl (by rfl) (pgs_cons (pg_name (i := 9) sc_lw_turn_right.nd rfl (Or.inl rfl)) (pgs_cons (pg_name (i := 10) sc_lw_turn_right.nd rfl (Or.inl rfl)) (pgs_cons (pg_name (i := 11) sc_lw_turn_right.nd rfl (Or.inl rfl)) pgs_nil))))) (fun _ _ _ _ _ => pts_one (pt_cmpR op_le (pv 11) (pv 1) (nomark _))) (fun _ _ _ _ _ => (pv 9)))
    (pss_cons (ps_for PassesOwn.never rfl (pi_range1 (by rfl) T.n_range (pa_cons pe_int pa_nil)) (pg_name (i := 6) sc_lw_turn_right.nd rfl (Or.inl rfl)) (pss_cons (ps_set (i := 7) sc_lw_turn_right.nd rfl (Or.inl rfl) (ec (c_windows_of T) g hr (by decide) pass0 (by rfl) (pa_cons (pv 0) (pa_cons (pv 1) pa_nil))))
        (pss_cons (ps_set (i := 8) sc_lw_turn_right.nd rfl (Or.inl rfl) (ec (c_closing T) g hr (by decide) pass0 (by rfl) (pa_cons (pv 0) (pa_cons (pv 1) pa_nil))))
        (pss_cons (ps_if (PW.pt (pw_or (pt_not (pt_val (ec (c_lw_same T) g hr (by decide) pass0 (by rfl) (pa_cons (pv 7) (pa_cons (pv 3) pa_nil))))) (pw_or1 (pt_not (pt_val (ec (c_lw_same T) g hr (by decide) pass0 (by rfl) (pa_cons (pv 8) (pa_cons (pv 4) pa_nil)))))))) (pss_one (ps_ret pe_bl)) pss_nil)
        (pss_cons (ps_if (pt_not (pt_val (ec (c_lw_same T) g hr (by decide) pass0 (by rfl) (pa_cons (ec (c_over T) g hr (by decide) pass0 (by rfl) (pa_cons (pv 0) (pa_cons (pv 1) pa_nil))) (pa_cons (pe_callB (k_len (K := K) rfl) (by rfl) T.n_len PySem.boot_len (pa_cons (pv 5) pa_nil)) pa_nil))))) (pss_one (ps_ret pe_bl)) pss_nil)
        (pss_cons (ps_expr (k_bm (K := K) rfl PySem.F.plainAttrs_list PySem.F.slot_list_append PySem.F.type_list_append mt_append (pv 7) (pa_cons pe_int pa_nil)))
        (pss_one (ps_expr (k_bm (K := K) rfl PySem.F.plainAttrs_list PySem.F.slot_list_insert PySem.F.type_list_insert mt_insert (pv 8) (pa_cons pe_int (pa_cons pe_int pa_nil)))))))))))
    (pss_one (ps_ret pe_bl)))))), ?_⟩
    refine q_asgL (xs := rgV (q.ended t) (q.begun t)) ?_ fun l3 H1 l30 e1 h3 => ?_
    · have := el_rows (K := K) (σ := [some (V.ref p), some (V.int t), some (V.ref r), none, none, none, none, none, none, none, none, none]) (H := H) (r := r) (q := q) (N := N) (tt := tTest (tOp (rIn K false) (tVar 1) (tVar 10))) (j := 2) (vs := [9, 10, 11]) (fun i => decide (t ∈ turnsOf q i)) rfl hrows (by omega) (fun _ _ _ => rfl) (fun _ _ _ => rfl) (fun i z H1 e1 hi hz => et_test (ev_op (ev_var rfl) (ev_var rfl) (by rw [← inV_ints]; exact rv_isL (sq_of hz) rfl (flat_ints _))))
      rw [win_given ok htn] at this
      exact this
    refine q_asgL (xs := if 0 ≤ q.since t ∧ q.rest t = 0 then [.int (q.since t)] else []) ?_ fun l4 H2 l40 e2 h4 => ?_
    · have := el_rows (K := K) (σ := [some (V.ref p), some (V.int t), some (V.ref r), some (V.ref l3), none, none, none, none, none, none, none, none]) (H := H1) (r := r) (q := q) (N := N) (tt := tTest (tOp rEq (tVar 11) (tVar 1))) (j := 2) (vs := [9, 10, 11]) (fun i => decide (V.int (q.closes (i : Int)) = V.int t)) rfl (hrows.ex e1) (by omega) (fun _ _ _ => rfl) (fun _ _ _ => rfl) (fun i z H1 e1 hi hz => et_test (ev_op (ev_var rfl) (ev_var rfl) (rv_eq rfl)))
      rw [shut_given ok htn] at this
      exact this
    refine q_asgL (xs := given N (fun i => decide (q.closes (i : Int) ≤ t)) (fun i => .int (i : Int))) ?_ fun l5 H3 l50 e3 h5 => ?_
    · exact el_rows (K := K) (σ := [some (V.ref p), some (V.int t), some (V.ref r), some (V.ref l3), some (V.ref l4), none, none, none, none, none, none, none]) (H := H2) (r := r) (q := q) (N := N) (tt := tTest (tOp (rI0 fun i j => V.bl (decide (i ≤ j))) (tVar 11) (tVar 1))) (j := 2) (vs := [9, 10, 11]) (fun i => decide (q.closes (i : Int) ≤ t)) rfl ((hrows.ex e1).ex e2) (by omega) (fun _ _ _ => rfl) (fun _ _ _ => rfl) (fun i z H1 e1 hi hz => et_test (ev_op (ev_var rfl) (ev_var rfl) rv_I0))
    have e13 := (e1.trans e2).trans e3
    have h33 := e3 _ _ (e2 _ _ h3)
    have h43 := e3 _ _ h4
    have hq3 := hq.ex e13
    have rw1 : Wm.Rep 60 1000000 (.list (((List.range (q.begun t - q.ended t).toNat).map fun i : Nat => q.ended t + (i : Int)).map PyData.int)) := by
      have hb := begun_le ok htn
      have h0 := ended_le ok (t := t)
      refine rep_small (fun n hn => ?_) ?_
      · obtain ⟨i, hi, rfl⟩ := List.mem_map.mp hn
        have := List.mem_range.mp hi
        exact Nat.lt_trans (show (q.ended t + (i : Int)).natAbs < 1001 by omega) (by decide)
      · rw [List.length_map, List.length_range]
        omega
    have hs := since_lt ok htn
    have dsh : ∃ d, (∀ {H : Hp} {l : Addr}, H l = some (.lst (if 0 ≤ q.since t ∧ q.rest t = 0 then [.int (q.since t)] else [])) → Dp K H (.ref l) d) ∧ Wm.Rep 60 1000000 d := by
      by_cases c : 0 ≤ q.since t ∧ q.rest t = 0
      · refine ⟨.list ([q.since t].map PyData.int), fun {H l} h => ?_, rep_small (fun n hn => ?_) (by show 1 ≤ 10000; decide)⟩
        · rw [if_pos c] at h
          exact .lst (sq_of h) (.cons (.int _) .nil)
        · rw [List.mem_singleton.mp hn]
          exact Nat.lt_trans (show (q.since t).natAbs < 1001 by omega) (by decide)
      · refine ⟨.list (([] : List Int).map PyData.int), fun {H l} h => ?_, rep_small (fun n hn => by cases hn) (by decide)⟩
        rw [if_neg c] at h
        exact .lst (sq_of h) .nil
    obtain ⟨dS, hdS, hrS⟩ := dsh
    refine q_forR1 (n := 2) (ea_cons ev_c ea_nil) ⟨by decide, by decide⟩ (fun _ σ' H' => ∃ o6 o7 o8, σ' = [some (V.ref p), some (V.int t), some (V.ref r), some (V.ref l3), some (V.ref l4), some (V.ref l5), o6, o7, o8, none, none, none] ∧ Ex H3 H') (fun H4 e4 => ⟨_, _, _, rfl, e4⟩) ?_ ?_
    · rintro i σ' H4 hi ⟨o6, o7, o8, rfl, e4⟩
      refine ⟨_, rfl, _, rfl, p, q, t, rfl, hq3.ex e4, ⟨by omega, by omega⟩, fun l7 H5 l70 e5 h7 => ?_⟩
      refine ⟨_, rfl, _, rfl, p, q, t, rfl, (hq3.ex e4).ex e5, fun l8 H6 l80 e6 h8 => ?_⟩
      have e46 := (e4.trans e5).trans e6
      have h76 := e6 _ _ h7
      refine q_when (b := false) (et_or (a := false) (b := false) (et_not (a := true) (et_B (ev_cl (ea_cons (ev_var rfl) (ea_cons (ev_var rfl) ea_nil)) (sv_alike (rg_dp h76) (rg_dp (e46 _ _ h33)) rw1)))) fun _ => et_not (a := true) (et_B (ev_cl (ea_cons (ev_var rfl) (ea_cons (ev_var rfl) ea_nil)) (sv_alike (hdS h8) (hdS (e46 _ _ h43)) hrS)))) (fun z => nomatch z) fun _ H7 e7 => ?_
      have e47 := e46.trans e7
      have ov : Ev (tCl (spOver K) E0 (tCons (tVar 0) (tCons (tVar 1) tNil))) [some (V.ref p), some (V.int t), some (V.ref r), some (V.ref l3), some (V.ref l4), some (V.ref l5), some (.int (i : Int)), some (V.ref l7), some (V.ref l8), none, none, none] H7 (.int (if q.since t + 1 > 0 then q.since t + 1 else 0)) := ev_cl (ea_cons (ev_var rfl) (ea_cons (ev_var rfl) ea_nil)) (fun H8 e8 Q qq E => ⟨p, q, t, rfl, (hq3.ex e47).ex e8, qq⟩)
      have ln : Ev (tCB (Lf.rLen K) (tCons (tVar 5) tNil)) [some (V.ref p), some (V.int t), some (V.ref r), some (V.ref l3), some (V.ref l4), some (V.ref l5), some (.int (i : Int)), some (V.ref l7), some (V.ref l8), none, none, none] H7 (.int (if q.since t + 1 > 0 then q.since t + 1 else 0)) := by
        rw [← gone_given ok htn]
        exact ev_cb (ea_cons (ev_var rfl) ea_nil) (fun H8 e8 Q qq => ⟨l5, _, rfl, .inl (sq_of (e8 _ _ (e47 _ _ h5))), qq H8 (Ex.refl _)⟩)
      refine q_when (b := false) (et_not (a := true) (et_B (ev_cl (ea_cons ov (ea_cons ln ea_nil)) (sv_alike (.int _) (.int _) (rep_int (Nat.lt_trans (show (if q.since t + 1 > 0 then q.since t + 1 else 0 : Int).natAbs < 1002 by split <;> omega) (by decide))))))) (fun z => nomatch z) fun _ H8 e8 => ?_
      have l7n : H3 l7 = none := fresh_back e4 l70
      have l8n : H3 l8 = none := fresh_back (e4.trans e5) l80
      have n78 : l7 ≠ l8 := fun z => by rw [← z, h7] at l80; cases l80
      have h78 := e8 _ _ (e7 _ _ h76)
      have h88 := e8 _ _ (e7 _ _ h8)
      refine q_app (K := K) (l := l7) (xs := rgV (q.ended t) (q.begun t)) h78 (ev_var rfl) ev_c (by rw [rgV_length]; have := begun_le ok htn; have := ended_le ok (t := t); omega) fun H9 e9 => ?_
      have e39 : Ex H3 (upd H9 l7 (.lst (rgV (q.ended t) (q.begun t) ++ [.int 7]))) := Ex.mut ((e47.trans e8).trans e9) l7n
      have h89 : (upd H9 l7 (.lst (rgV (q.ended t) (q.begun t) ++ [.int 7]))) l8 = some (.lst (if 0 ≤ q.since t ∧ q.rest t = 0 then [.int (q.since t)] else [])) := by
        rw [upd_ne n78.symm]
        exact e9 _ _ h88
      exact ⟨_, rfl, .inl ⟨rfl, _, sq_of h89⟩, l8, _, 0, .int 9, rfl, rfl, h89, (by split; exact (show 1 < sizeLine by decide); exact (show 0 < sizeLine by decide)), by decide, by decide, _, _, _, rfl, Ex.mut e39 l8n⟩
    · rintro σ' H4 ⟨o6, o7, o8, rfl, e4⟩
      exact s_ret ev_c fun H5 e5 => k _ ((e13.trans e4).trans e5)
end
end K62
end
section
set_option Elab.async false
set_option linter.all false
set_option maxRecDepth 100000
set_option maxHeartbeats 4000000
namespace K62
local macro_rules | `(tactic| walk_at "pos") => `(tactic| (show (0 : Int) < _; first | decide | omega))
open PySem PySem.Spec PyProof.Rows L2 Lf 
open Evl
local macro_rules | `(tactic| walk_at "lk") => `(tactic| (simp (disch := decide +kernel) only [lk_hit, lk_miss, lk_nil]))
local macro_rules | `(tactic| walk_at "pf") => `(tactic| (simp (disch := decide +kernel) only [pf_hit, pf_miss, pf_nil]))
theorem hne {H : Hp} {a c : Addr} {u v : HO} (h : H a = some u) (k : H c = some v) (n : u ≠ v) : a ≠ c := fun z => by
  rw [z, k] at h
  exact n (Option.some.inj h).symm
theorem turns_last {q : Qu} {i : Nat} (h : 1 ≤ q.length) : ∃ ns, turnsOf q i = ns ++ [q.first + (i : Int) * q.every + q.length - 1] := by
  refine ⟨(List.range (q.length.toNat - 1)).map fun k : Nat => q.first + (i : Int) * q.every + (k : Int), ?_⟩
  unfold turnsOf
  have e : q.length.toNat = (q.length.toNat - 1) + 1 := by omega
  rw [e, List.range_succ, List.map_append, ← e]
  congr 1
  show [q.first + (i : Int) * q.every + ((q.length.toNat - 1 : Nat) : Int)] = _
  congr 1
  omega
theorem mul_small {w e : Int} (h0 : 0 ≤ w) (h1 : w ≤ 200000) (e0 : 1 ≤ e) (e1 : e ≤ 20) : 0 ≤ w * e ∧ w * e ≤ 4000000 := by
  refine ⟨Int.mul_nonneg h0 (by omega), ?_⟩
  have := Int.mul_le_mul h1 e1 (by omega) (by omega)
  omega
theorem closes_small {q : Qu} (h : q.Ok) {w : Int} (h0 : 0 ≤ w) (h1 : w ≤ 200000) : (q.closes w).natAbs < 10 ^ 12 := by
  have := mul_small h0 h1 h.every.1 h.every.2
  have hf := h.first
  have hl := h.length
  have hg := h.lag
  unfold Qu.closes
  exact Nat.lt_trans (show (q.first + w * q.every + q.length - 1 + q.lag).natAbs < 10000000 by omega) (by decide)
theorem since_closes {q : Qu} (h : q.Ok) (w : Int) : q.since (q.closes w) = w ∧ q.rest (q.closes w) = 0 := by
  have he := h.every.1
  have e : q.closes w - q.closes 0 = w * q.every := by unfold Qu.closes; omega
  unfold Qu.since Qu.rest
  rw [e]
  exact ⟨Int.mul_ediv_cancel _ (by omega), Int.mul_emod_left _ _⟩
theorem rows_snoc {H H' : Hp} {r u z : Addr} {xs : List V} {q : Qu} {N : Nat} (h : RowsAt H r q N) (hx : H r = some (.lst xs)) (e : Ex H H') (hu : H' u = some (.tup [.int (N : Int), .ref z, .int (q.closes (N : Int))])) (hz : H' z = some (.lst ((turnsOf q N).map V.int))) (nz : z ≠ r) (old : ∀ (i : Nat) (v : V) (u z : Addr), xs[i]? = some v → v = .ref u → H u = some (.tup [.int (i : Int), .ref z, .int (q.closes (i : Int))]) → z ≠ r) : RowsAt (upd H' r (.lst (xs ++ [.ref u]))) r q (N + 1) := by
  obtain ⟨vs, g1, g2, g3⟩ := h
  rw [hx] at g1
  cases g1
  refine ⟨xs ++ [.ref u], upd_same, by rw [List.length_append, g2] <;> rfl, fun i v hv => ?_⟩
  have hr := e _ _ hx
  by_cases c : i < xs.length
  · rw [List.getElem?_append_left c] at hv
    obtain ⟨u', z', h1, h2, h3⟩ := g3 i v hv
    exact ⟨u', z', h1, by rw [upd_ne (hne (e _ _ h2) hr (fun z => nomatch z))]; exact e _ _ h2, by rw [upd_ne (old i v u' z' hv h1 h2)]; exact e _ _ h3⟩
  · rw [List.getElem?_append_right (by omega)] at hv
    have h1 := (List.getElem?_eq_some_iff.mp hv).1
    have e0 : i - xs.length = 0 := by simp at h1; omega
    rw [e0] at hv
    cases hv
    have ei : i = N := by omega
    subst ei
    exact ⟨u, z, rfl, by rw [upd_ne (hne hu hr (fun z => nomatch z))]; exact hu, by rw [upd_ne nz]; exact hz⟩
theorem mem_rgV {a b : Int} {x : V} (h : x ∈ rgV a b) : ∃ n, x = .int n ∧ a ≤ n ∧ n < b := by
  unfold rgV at h
  obtain ⟨i, hi, rfl⟩ := List.mem_map.mp h
  have := List.mem_range.mp hi
  exact ⟨_, rfl, by omega, by omega⟩
theorem in_rg (w lo hi : Int) : inV (.int w) (rgV lo hi) = decide (lo ≤ w ∧ w < hi) := by
  rw [rg_ints, inV_ints]
  refine decide_eq_decide.mpr ⟨fun h => ?_, fun h => List.mem_map.mpr ⟨(w - lo).toNat, List.mem_range.mpr (by omega), by omega⟩⟩
  obtain ⟨i, hi, rfl⟩ := List.mem_map.mp h
  have := List.mem_range.mp hi
  omega
theorem flat_rg (lo hi : Int) : (rgV lo hi).all flatV = true := by rw [rg_ints]; exact flat_ints _
theorem win_at {q : Qu} (h : q.Ok) {w : Int} (hw : 0 ≤ w) : q.begun (q.first + w * q.every) = w + 1 ∧ q.ended (q.first + w * q.every) ≤ w ∧ q.begun (q.first + w * q.every - 1) ≤ w := by
  have he := h.every.1
  have hl := h.length
  have e : q.first + w * q.every - q.first = w * q.every := by omega
  refine ⟨?_, ?_, ?_⟩
  · unfold Qu.begun
    rw [e, Int.mul_ediv_cancel _ (by omega)]
  · unfold Qu.ended
    rw [e]
    have : (w * q.every - q.length) / q.every < w := (Int.ediv_lt_iff_lt_mul (by omega)).mpr (by omega)
    split <;> omega
  · unfold Qu.begun
    have : (q.first + w * q.every - 1 - q.first) / q.every < w := (Int.ediv_lt_iff_lt_mul (by omega)).mpr (by omega)
    omega
theorem pow5 {i j : Int} (hi : i = 10) (hj : j = 5) : CPow i j ∧ (0 < i ^ j.toNat ∧ i ^ j.toNat ≤ 1000000000000000000000000000000) ∧ ∀ v, 0 ≤ v → v < i ^ j.toNat → 0 ≤ v ∧ v < 100000 := by
  subst hi
  subst hj
  have e : (10 : Int) ^ (5 : Int).toNat = 100000 := by decide
  rw [e]
  exact ⟨⟨by decide, by decide, by decide⟩, ⟨by decide, by decide⟩, fun v v0 v1 => ⟨v0, v1⟩⟩
theorem sqt_step {K : PySem.W.Frag} {b : Addr × Addr} {H H' : Hp} {a : Addr} {xs : List V} (s : Step b H H') (hb : Bag H b) (h : SqT K H a xs) : SqT K H' a xs := by
  obtain ⟨x, y, z, ns, g1, _⟩ := hb
  rcases h with h | h
  · rcases h with h | ⟨o, h⟩
    · exact .inl (.inl (s.at (hne h g1 (fun z => nomatch z)) h))
    · exact .inl (.inr ⟨o, s.at (hne h g1 (fun z => nomatch z)) h⟩)
  · exact .inr h
theorem qat_step {K : PySem.W.Frag} {b : Addr × Addr} {H H' : Hp} {p : Addr} {q : Qu} (s : Step b H H') (hb : Bag H b) (h : QAt K H p q) : QAt K H' p q := by
  obtain ⟨h1, v, h2, h3⟩ := h
  refine ⟨h1, v, sqt_step s hb h2, ?_⟩
  cases e : q.places with
  | none => rw [e] at h3; exact h3
  | some ns =>
    rw [e] at h3
    obtain ⟨a, k1, k2⟩ := h3
    exact ⟨a, k1, sqt_step s hb k2⟩
/-- the rows, none of whose lists is theirs -/
def Rows (H : Hp) (r : Addr) (q : Qu) (N : Nat) : Prop := RowsAt H r q N ∧ ∀ vs, H r = some (.lst vs) → ∀ (i : Nat) (v : V) (u z : Addr), vs[i]? = some v → v = .ref u → H u = some (.tup [.int (i : Int), .ref z, .int (q.closes (i : Int))]) → z ≠ r
section
variable {P : Program} {w : World} {K : PySem.W.Frag} {mg : Str → Option Value} {base : Heap} (T : Top K mg )
include T
theorem f_law {f : Addr} {fd : FuncData} (F : L2.Fun K "law" "law" s_law f fd) : Fn P w K mg base CX0 12 f fd ["_law_script"] (spLaw K) := by
  refine fn0G F sc_law (fun vs H Q E h => ?_) (fun cdv A outer s H vs Q E g hr h => ?_)
  · obtain ⟨a, ns, rfl, _⟩ := h
    rfl
  · obtain ⟨a, ns, rfl, hx, hl, k⟩ := h
    refine ⟨_, (pss_cons (ps_set (i := 1) sc_law.nd rfl (Or.inl rfl) (ec (c_lw_bag T) g hr (by decide) pass0 (by rfl) (pa_cons (pv 0) pa_nil)))
    (pss_cons (ps_for PassesOwn.never rfl (pi_range1 (by rfl) T.n_range (pa_cons pe_int pa_nil)) (pg_name (i := 2) sc_law.nd rfl (Or.inl rfl)) (pss_cons (ps_set (i := 3) sc_law.nd rfl (Or.inl rfl) (pe_op (kop (K := K) (r := rCatA) op_catA rfl) (pe_tup (pa_cons (pe_op op_add pe_int (pv 2)) pa_nil)) (ec (c_lw_terms T) g hr (by decide) pass0 (by rfl) (pa_cons (pv 1) (pa_cons (pe_ix (kix (K := K) (r := rIxL) ix_list rfl) (pe_lst (pa_cons pe_int (pa_cons (ec (c_lw_take T) g hr (by decide) pass0 (by rfl) (pa_cons (pv 1) (pa_cons pe_int pa_nil))) (pa_cons (ec (c_lw_take T) g hr (by decide) pass0 (by rfl) (pa_cons (pv 1) (pa_cons pe_int pa_nil))) pa_nil)))) (ec (c_lw_take T) g hr (by decide) pass0 (by rfl) (pa_cons (pv 1) (pa_cons pe_int pa_nil))) (fun _ _ => rfl)) pa_nil)))))
        (pss_cons (ps_asg (pv 3) (k_gtup (K := K) rfl (by rfl) (pgs_cons (pg_name (i := 4) sc_law.nd rfl (Or.inl rfl)) (pgs_cons (pg_name (i := 5) sc_law.nd rfl (Or.inl rfl)) (pgs_cons (pg_name (i := 6) sc_law.nd rfl (Or.inl rfl)) (pgs_cons (pg_name (i := 7) sc_law.nd rfl (Or.inr rfl)) (pgs_cons (pg_name (i := 8) sc_law.nd rfl (Or.inr rfl)) (pgs_cons (pg_name (i := 9) sc_law.nd rfl (Or.inl rfl)) (pgs_cons (pg_name (i := 10) sc_law.nd rfl (Or.inl rfl)) pgs_nil)))))))))
        (pss_cons (ps_set (i := 11) sc_law.nd rfl (Or.inl rfl) (pe_lst pa_nil))
        (pss_cons (ps_for PassesOwn.never rfl (pi_range1 (by rfl) T.n_range (pa_cons (pe_op op_add pe_int (pe_op op_fdivW (pe_op op_add (pv 10) (pe_op op_mul pe_int (pv 9))) (pv 8))) pa_nil)) (pg_name (i := 12) sc_law.nd rfl (Or.inr rfl)) (pss_cons (ps_setLc (i := 13) (own := [("_law_k", 15)]) (g := (gName 15)) (tt := tYes) (by rfl) sc_law.nd rfl rfl (sw_true rfl rfl rfl (by decide +kernel)) (pi_range1 (by rfl) T.n_range (pa_cons (pv 9) pa_nil)) (blkOk_by (own := [("_law_k", 15)]) (N := ns_law) (sc := defScope s_law) (by decide +kernel)) (fun _ _ _ _ _ => (pg_name (i := 15) sc_law.nd rfl (Or.inl rfl))) (fun _ _ _ _ _ => pts_nil) (fun _ _ _ _ _ => (pe_op op_add (pe_op op_add (pv 7) (pe_op op_mul (pv 12) (pv 8))) (pv 15))))
            (pss_cons (ps_expr (k_bm (K := K) rfl PySem.F.plainAttrs_list PySem.F.slot_list_append PySem.F.type_list_append mt_append (pv 11) (pa_cons (pe_tup (pa_cons (pv 12) (pa_cons (pv 13) (pa_cons (pe_op op_add (pe_ix (kix (K := K) (r := rIxL) ix_list rfl) (pv 13) (pe_un un_neg pe_int) (fun _ _ => rfl)) (pv 10)) pa_nil)))) pa_nil)))
            (pss_one (ps_if (pt_not (pt_val (ec (c_lw_same T) g hr (by decide) pass0 (by rfl) (pa_cons (ec (c_closes T) g hr (by decide) pass0 (by rfl) (pa_cons (pv 3) (pa_cons (pv 12) pa_nil))) (pa_cons (pe_op op_add (pe_ix (kix (K := K) (r := rIxL) ix_list rfl) (pv 13) (pe_un un_neg pe_int) (fun _ _ => rfl)) (pv 10)) pa_nil))))) (pss_one (ps_ret pe_bl)) pss_nil)))))
        (pss_cons (ps_set (i := 14) sc_law.nd rfl (Or.inl rfl) (pe_ix (kix (K := K) (r := rIxT) ix_tup rfl) (pe_ix (kix (K := K) (r := rIxL) ix_list rfl) (pv 11) pe_int (fun _ _ => rfl)) pe_int (fun _ _ => rfl)))
        (pss_cons (ps_for PassesOwn.never rfl (k_list (K := K) rfl (pe_op op_cat (pe_op op_cat (pe_listRg (by rfl) (by rfl) T.n_list (prg_2 (by rfl) T.n_range pe_int (pe_callB (call_min2 rfl) (by rfl) T.n_min (by decide +kernel) (pa_cons (pv 14) (pa_cons pe_int pa_nil))))) (pe_listRg (by rfl) (by rfl) T.n_list (prg_2 (by rfl) T.n_range (pe_callB (call_max2 rfl) (by rfl) T.n_max (by decide +kernel) (pa_cons pe_int (pa_cons (pe_op op_sub (pv 7) pe_int) pa_nil))) (pe_op op_add (pv 7) pe_int)))) (pe_lst (pa_cons (pv 14) (pa_cons (pe_op op_sub (pv 14) pe_int) pa_nil))))) (pg_name (i := 15) sc_law.nd rfl (Or.inl rfl)) (pss_one (ps_if (PW.pt (pw_and (pt_cmpR op_lt (pv 15) (pe_ix (kix (K := K) (r := rIxL) ix_list rfl) (pe_ix (kix (K := K) (r := rIxT) ix_tup rfl) (pe_ix (kix (K := K) (r := rIxL) ix_list rfl) (pv 11) (pe_un un_neg pe_int) (fun _ _ => rfl)) pe_int (fun _ _ => rfl)) pe_int (fun _ _ => rfl)) (nomark _)) (pw_and1 (pt_not (pt_val (ec (c_lw_turn_right T) g hr (by decide) pass0 (by rfl) (pa_cons (pv 3) (pa_cons (pv 15) (pa_cons (pv 11) pa_nil))))))))) (pss_one (ps_ret pe_bl)) pss_nil)))
        (pss_cons (ps_set (i := 16) sc_law.nd rfl (Or.inl rfl) (pe_op op_add pe_int (ec (c_lw_take T) g hr (by decide) pass0 (by rfl) (pa_cons (pv 1) (pa_cons (pe_op op_pow pe_int pe_int) pa_nil)))))
        (pss_cons (ps_set (i := 12) sc_law.nd rfl (Or.inr rfl) (pe_op op_fdivW (pv 16) (pv 8)))
        (pss_cons (ps_if (pt_not (pt_val (ec (c_lw_same T) g hr (by decide) pass0 (by rfl) (pa_cons (ec (c_closes T) g hr (by decide) pass0 (by rfl) (pa_cons (pv 3) (pa_cons (pv 12) pa_nil))) (pa_cons (pe_op op_add (pe_op op_sub (pe_op op_add (pe_op op_add (pv 7) (pe_op op_mul (pv 12) (pv 8))) (pv 9)) pe_int) (pv 10)) pa_nil))))) (pss_one (ps_ret pe_bl)) pss_nil)
        (pss_cons (ps_set (i := 17) sc_law.nd rfl (Or.inl rfl) (ec (c_closes T) g hr (by decide) pass0 (by rfl) (pa_cons (pv 3) (pa_cons (pv 12) pa_nil))))
        (pss_cons (ps_if (PW.pt (pw_or (pt_not (pt_val (ec (c_lw_same T) g hr (by decide) pass0 (by rfl) (pa_cons (ec (c_over T) g hr (by decide) pass0 (by rfl) (pa_cons (pv 3) (pa_cons (pv 17) pa_nil))) (pa_cons (pe_op op_add (pv 12) pe_int) pa_nil))))) (pw_or1 (pt_not (pt_val (ec (c_lw_same T) g hr (by decide) pass0 (by rfl) (pa_cons (ec (c_closing T) g hr (by decide) pass0 (by rfl) (pa_cons (pv 3) (pa_cons (pv 17) pa_nil))) (pa_cons (pe_lst (pa_cons (pv 12) pa_nil)) pa_nil)))))))) (pss_one (ps_ret pe_bl)) pss_nil)
        (pss_one (ps_if (PW.pt (pw_or (pt_cmpR (kop (K := K) (r := fun K => rIn K true) op_notIn_seq rfl) (pv 12) (ec (c_windows_of T) g hr (by decide) pass0 (by rfl) (pa_cons (pv 3) (pa_cons (pe_op op_add (pv 7) (pe_op op_mul (pv 12) (pv 8))) pa_nil))) rfl) (pw_or1 (pt_cmpR (kop (K := K) (r := fun K => rIn K false) op_in_seq rfl) (pv 12) (ec (c_windows_of T) g hr (by decide) pass0 (by rfl) (pa_cons (pv 3) (pa_cons (pe_op op_sub (pe_op op_add (pv 7) (pe_op op_mul (pv 12) (pv 8))) pe_int) pa_nil))) rfl)))) (pss_one (ps_ret pe_bl)) pss_nil))))))))))))))
    (pss_one (ps_ret pe_bl)))), ?_⟩
    refine ⟨_, rfl, a, ns, rfl, hx, hl, fun b H1 e1 b0 hb1 => ?_⟩
    dsimp only [gName]
    refine q_forR1 (n := 5) (ea_cons ev_c ea_nil) ⟨by decide, by decide⟩ (fun _ σ' H' => ∃ o2 o3 o4 o5 o6 o7 o8 o9 o10 o11 o12 o13 o14 o15 o16 o17, σ' = [some (.ref a), some (.ref b.1), o2, o3, o4, o5, o6, o7, o8, o9, o10, o11, o12, o13, o14, o15, o16, o17] ∧ Bag H' b) (fun H2 e2 => ⟨_, _, _, _, _, _, _, _, _, _, _, _, _, _, _, _, rfl, hb1.ex e2⟩) ?_ ?_
    · rintro i σ' H' hi ⟨o2, o3, o4, o5, o6, o7, o8, o9, o10, o11, o12, o13, o14, o15, o16, o17, rfl, hb⟩
      -- the question
      refine ⟨_, rfl, 1, (i : Int), rfl, rfl, by show 1 ≤ sizeLine; decide, fun t1 ht1 => ⟨_, rfl, ?_⟩⟩
      have hb2 := hb.ex (Ex.new (o := .tup [.int (1 + (i : Int))]) ht1)
      refine dri_pick (b := b) (n := 3) (p := fun x => 0 ≤ x ∧ x ≤ 1000) (dra_cons (DrI.dr (dri_c (by omega))) (dra_cons (DrI.dr ((dri_tk rfl (by decide) (by decide)).imp fun i h => ⟨h.1, by omega⟩)) (dra_cons (DrI.dr ((dri_tk rfl (by decide) (by decide)).imp fun i h => ⟨h.1, by omega⟩)) (dra_nil rfl)))) (dri_tk rfl (by decide) (by decide)) (by decide) _ (.refl hb2) _ fun fi H2 s2 hfi => ?_
      refine ⟨b, fi, rfl, s2.1, hfi, fun H3 u q0 v s3 u0 hu hp ok0 ef _ => ?_⟩
      have s23 := s2.trans s3
      have nt1 : t1 ≠ b.1 := hb.ne ht1
      have ht3 := s23.at nt1 (upd_same (H := H') (a := t1) (o := .tup [.int (1 + (i : Int))]))
      refine ⟨t1, u, [.int (1 + (i : Int))], q0.tail v, rfl, rfl, st_of ht3, st_of hu, by show 7 ≤ sizeLine; decide, (fun z => nomatch z), (fun _ z => nomatch z), fun _ _ qa hqa => ?_⟩
      obtain ⟨q, hqd⟩ : ∃ q : Qu, q = ⟨1 + (i : Int), q0.s, q0.places, q0.first, q0.every, q0.length, q0.lag⟩ := ⟨_, rfl⟩
      have ok : q.Ok := by rw [hqd]; exact ⟨by show 1 ≤ 1 + (i : Int); omega, ok0.s, ok0.pl, ok0.first, ok0.every, ok0.length, ok0.lag⟩
      have hrow : (upd H3 qa (.tup ([.int (1 + (i : Int))] ++ q0.tail v))) qa = some (.tup (q.row v)) := by rw [upd_same, hqd]; rfl
      have hQ : QAt K (upd H3 qa (.tup ([.int (1 + (i : Int))] ++ q0.tail v))) qa q := ⟨ok, v, st_of hrow, by rw [hqd]; exact hp.ex (Ex.new hqa)⟩
      have hb4 : Bag (upd H3 qa (.tup ([.int (1 + (i : Int))] ++ q0.tail v))) b := s23.1.ex (Ex.new hqa)
      generalize upd H3 qa (.tup ([.int (1 + (i : Int))] ++ q0.tail v)) = H4 at hrow hQ hb4 ⊢
      refine ⟨_, rfl, qa, q.row v, rfl, st_of hrow, rfl, _, _, rfl, _, _, rfl, _, _, rfl, _, _, rfl, _, _, rfl, _, _, rfl, _, _, rfl, rfl, ?_⟩
      -- rows
      refine ⟨by show 0 ≤ sizeLine; decide, fun r hr => ?_⟩
      have he := ok.every
      have hln := ok.length
      have hlg := ok.lag
      have hff := ok.first
      have e5 : Ex H4 (upd H4 r (.lst [])) := Ex.new hr
      have hr5 : (upd H4 r (.lst [])) r = some (.lst []) := upd_same
      have hb5 := hb4.ex e5
      have hQ5 := hQ.ex e5
      generalize upd H4 r (.lst []) = H5 at e5 hr5 hb5 hQ5 ⊢
      have d0 := ediv_lo (a := q.lag + 2 * q.length) (m := 0) he.1 (by decide) (by omega)
      have d1 := ediv_hi (a := q.lag + 2 * q.length) (m := 216) he.1 (by decide) (by omega)
      obtain ⟨N, hN⟩ : ∃ N : Nat, (N : Int) = 6 + (q.lag + 2 * q.length) / q.every := ⟨(6 + (q.lag + 2 * q.length) / q.every).toNat, by omega⟩
      refine q_forR1 (n := (N : Int)) (ea_cons (ev_is (ev_op ev_c (ev_op (ev_op (ev_var rfl) (ev_op ev_c (ev_var rfl) (rv_I (.inl ⟨by decide, by decide⟩))) rv_I0) (ev_var rfl) (rv_I (divW (by omega) (by omega)))) rv_I0) (congrArg V.int hN.symm)) ea_nil) ⟨by omega, by omega⟩
        (fun k σ' H' => ∃ o12 o13, σ' = [some (.ref a), some (.ref b.1), some (.int (i : Int)), some (.ref qa), some (.int q.n), some (.int q.s), some v, some (.int q.first), some (.int q.every), some (.int q.length), some (.int q.lag), some (.ref r), o12, o13, o14, o15, o16, o17] ∧ Ex H4 H' ∧ Rows H' r q k) (fun H6 e6 => ⟨_, _, rfl, e5.trans e6, ⟨[], e6 _ _ hr5, rfl, fun i v hv => by cases hv⟩, fun vs h i v u z hv => by rw [e6 _ _ hr5] at h; cases h; cases hv⟩) ?_ ?_
      · rintro k σ' H6 hk ⟨o12, o13, rfl, e6, hR⟩
        have hQ6 := hQ.ex e6
        refine q_asgL (xs := (turnsOf q k).map V.int) ?_ fun z H7 z0 e7 hz => ?_
        · have lc := el_lcR1 (ta := tCons (tVar 9) tNil) (σ := [some (V.ref a), some (V.ref b.1), some (.int (i : Int)), some (.ref qa), some (.int q.n), some (.int q.s), some v, some (.int q.first), some (.int q.every), some (.int q.length), some (.int q.lag), some (.ref r), some (.int (k : Int)), o13, o14, o15, o16, o17]) (H := H6) (j := 15) (vs := [15]) (n := q.length) (t := tYes) (te := tOp (rI0 fun i j => V.int (i + j)) (tOp (rI0 fun i j => V.int (i + j)) (tVar 7) (tOp (rI CMul fun i j => V.int (i * j)) (tVar 12) (tVar 8))) (tVar 15)) (fun _ => true) (fun j => V.int (q.first + (k : Int) * q.every + (j : Int))) (ea_cons (ev_var rfl) ea_nil) ⟨by omega, by omega⟩ (fun _ => rfl) (fun _ _ _ _ => yes_ok)
            (fun j H1 e1 hj _ => ev_op (ev_op (ev_var rfl) (ev_op (ev_var rfl) (ev_var rfl) (rv_I (.inr ⟨by omega, by omega⟩))) rv_I0) (ev_var rfl) rv_I0)
          rw [given_all] at lc
          have : ((List.range q.length.toNat).map fun j : Nat => V.int (q.first + (k : Int) * q.every + (j : Int))) = (turnsOf q k).map V.int := by unfold turnsOf; rw [List.map_map]; rfl
          rw [this] at lc
          exact lc
        have e47 := e6.trans e7
        obtain ⟨nsl, hnsl⟩ := turns_last (q := q) (i := k) (by omega)
        have ecl : q.first + (k : Int) * q.every + q.length - 1 + q.lag = q.closes (k : Int) := rfl
        have lastE : ∀ {H8 : Hp}, Ex H7 H8 → Ev (tOp (rI0 fun i j => V.int (i + j)) (tOp (rIxL K) (tVar 13) (tUn (rU fun i => V.int (-i)) (tC (V.int 1)))) (tVar 10)) [some (V.ref a), some (V.ref b.1), some (.int (i : Int)), some (.ref qa), some (.int q.n), some (.int q.s), some v, some (.int q.first), some (.int q.every), some (.int q.length), some (.int q.lag), some (.ref r), some (.int (k : Int)), some (.ref z), o14, o15, o16, o17] H8 (.int (q.closes (k : Int))) := fun {H8} e8 => by
          have hz8 := e8 _ _ hz
          rw [hnsl, List.map_append] at hz8
          exact ev_op (ev_op (ev_var rfl) (ev_un ev_c ru_neg) (rv_ixL (sq_of hz8) (atI_last _ _))) (ev_var rfl) rv_I0
        obtain ⟨⟨vs, g1, g2, g3⟩, gz⟩ := hR
        refine q_appU (K := K) (l := r) (xs := vs) (ys := [.int (k : Int), .ref z, .int (q.closes (k : Int))]) (e7 _ _ g1) (ev_var rfl) (eu_tup (ea_cons (ev_var rfl) (ea_cons (ev_var rfl) (ea_cons (lastE (Ex.refl _)) ea_nil))) (by show 3 ≤ 100000; decide)) (by omega) fun u H8 u0 e8 hu => ?_
        have e68 := e7.trans e8
        have nzr : z ≠ r := fun q => by rw [q, g1] at z0; cases z0
        have rn : H4 r = none := hr
        have R8 := rows_snoc (u := u) (z := z) ⟨vs, g1, g2, g3⟩ g1 e68 hu (e8 _ _ hz) nzr (gz vs g1)
        have E8 : Ex H4 (upd H8 r (.lst (vs ++ [.ref u]))) := Ex.mut (e47.trans e8) rn
        have nur : u ≠ r := fun q => by rw [q, e7 _ _ g1] at u0; cases u0
        have Z8 : ∀ ws, (upd H8 r (.lst (vs ++ [.ref u]))) r = some (.lst ws) → ∀ (i : Nat) (v : V) (u5 z5 : Addr), ws[i]? = some v → v = .ref u5 → (upd H8 r (.lst (vs ++ [.ref u]))) u5 = some (.tup [.int (i : Int), .ref z5, .int (q.closes (i : Int))]) → z5 ≠ r := by
          intro ws hws i' v' u' z' hv' hu' ht'
          rw [upd_same] at hws
          cases hws
          by_cases c : i' < vs.length
          · rw [List.getElem?_append_left c] at hv'
            obtain ⟨u2, z2, k1, k2, k3⟩ := g3 i' v' hv'
            rw [hu'] at k1
            cases k1
            have nr2 : u' ≠ r := hne (e68 _ _ k2) (e68 _ _ g1) (fun z => nomatch z)
            rw [upd_ne nr2, e68 _ _ k2] at ht'
            have : z2 = z' := by
              have := HO.tup.inj (Option.some.inj ht')
              simp at this
              exact this
            rw [← this]
            exact gz vs g1 i' v' u' z2 hv' hu' k2
          · rw [List.getElem?_append_right (by omega)] at hv'
            have h1 := (List.getElem?_eq_some_iff.mp hv').1
            have e0 : i' - vs.length = 0 := by simp at h1; omega
            rw [e0] at hv'
            cases hv'
            cases hu'
            rw [upd_ne nur, hu] at ht'
            have : z = z' := by
              have := HO.tup.inj (Option.some.inj ht')
              simp at this
              exact this.2.1
            rw [← this]
            exact nzr
        have h9z : (upd H8 r (.lst (vs ++ [.ref u]))) z = some (.lst ((turnsOf q k).map V.int)) := by rw [upd_ne nzr]; exact e8 _ _ hz
        generalize upd H8 r (.lst (vs ++ [.ref u])) = H9 at R8 E8 Z8 h9z ⊢
        have lastE9 : Ev (tOp (rI0 fun i j => V.int (i + j)) (tOp (rIxL K) (tVar 13) (tUn (rU fun i => V.int (-i)) (tC (V.int 1)))) (tVar 10)) [some (V.ref a), some (V.ref b.1), some (.int (i : Int)), some (.ref qa), some (.int q.n), some (.int q.s), some v, some (.int q.first), some (.int q.every), some (.int q.length), some (.int q.lag), some (.ref r), some (.int (k : Int)), some (.ref z), o14, o15, o16, o17] H9 (.int (q.closes (k : Int))) := by
          rw [hnsl, List.map_append] at h9z
          exact ev_op (ev_op (ev_var rfl) (ev_un ev_c ru_neg) (rv_ixL (sq_of h9z) (atI_last _ _))) (ev_var rfl) rv_I0
        refine s_when (b := false) (et_not (a := true) (et_B (ev_cl (ea_cons (ev_cl (ea_cons (ev_var rfl) (ea_cons (ev_var rfl) ea_nil)) (fun H10 e10 Q qq E => ⟨qa, q, (k : Int), rfl, (hQ.ex E8).ex e10, qq⟩)) (ea_cons lastE9 ea_nil)) (sv_alike (.int _) (.int _) (rep_int (closes_small ok (by omega) (by omega))))))) (fun z => nomatch z) fun _ H10 e10 => ?_
        exact ⟨_, _, rfl, E8.trans e10, R8.ex e10, fun ws hws i' v' u' z' hv' hu' ht' => by
          obtain ⟨ws2, k1, k2, k3⟩ := R8
          rw [e10 _ _ k1] at hws
          cases hws
          obtain ⟨u2, z2, m1, m2, m3⟩ := k3 i' v' hv'
          rw [hu'] at m1
          cases m1
          rw [e10 _ _ m2] at ht'
          have : z2 = z' := by
            have := HO.tup.inj (Option.some.inj ht')
            simp at this
            exact this
          rw [← this]
          exact Z8 _ k1 i' v' u' z2 hv' hu' m2⟩
      · rintro σ' H6 ⟨o12, o13, rfl, e6, hR, _⟩
        rw [Int.toNat_natCast] at hR
        have hR0 := hR
        obtain ⟨vs, g1, g2, g3⟩ := hR
        have hN6 : 6 ≤ N := by omega
        have hN1 : N ≤ 222 := by omega
        obtain ⟨v4, h4⟩ : ∃ v4, vs[4]? = some v4 := ⟨vs[4]'(by omega), List.getElem?_eq_getElem _⟩
        obtain ⟨u4, z4, rfl, hu4, _⟩ := g3 4 v4 h4
        have m4 : 0 ≤ q.closes ((4 : Nat) : Int) ∧ q.closes ((4 : Nat) : Int) ≤ 1000000 ∧ 1 ≤ q.closes ((4 : Nat) : Int) := by
          unfold Qu.closes
          have hq1 : q.first ≤ 1000 := by rw [show q.first = q0.first from by rw [hqd], ef]; exact hfi.2
          omega
        generalize q.closes ((4 : Nat) : Int) = c4 at hu4 m4
        refine ⟨_, rfl, r, vs, 4, .ref u4, rfl, rfl, sq_of g1, atI_nat (j := 4) h4, u4, _, 2, .int c4, rfl, rfl, st_of hu4, rfl, ?_⟩
        -- the turns that are asked
        refine ⟨_, rfl, c4, 30, rfl, 0, _, rfl, rfl, RgOk.of_le (by omega) (by split <;> omega) (by omega) (by split <;> omega), fun l1 hl1 => ?_⟩
        refine ⟨_, rfl, q.first, 2, rfl, rfl, 0, q.first - 2, rfl, _, rfl, q.first, 12, rfl, rfl, _, _, rfl, rfl, RgOk.of_le (by split <;> omega) (by omega) (by split <;> omega) (by omega), fun l2 hl2 => ?_⟩
        refine ⟨l1, l2, _, _, rfl, rfl, Ex.new hl2 _ _ upd_same, upd_same, Nat.le_trans (show _ ≤ 1000 by rw [rgV_length, rgV_length]; split <;> split <;> omega) (by decide), fun l3 hl3 => ?_⟩
        refine ⟨_, rfl, _, rfl, c4, 1, rfl, rfl, by show 2 ≤ sizeLine; decide, fun l4 hl4 => ?_⟩
        refine ⟨l3, l4, _, _, rfl, rfl, Ex.new hl4 _ _ upd_same, upd_same, Nat.le_trans (show _ ≤ 1000 by rw [List.length_append, rgV_length, rgV_length]; show _ + 2 ≤ 1000; split <;> split <;> omega) (by decide), fun l5 hl5 => ?_⟩
        refine ⟨l5, rfl, ⟨_, sq_of upd_same⟩, for_list (fun _ σ' H' => ∃ o15, σ' = [some (.ref a), some (.ref b.1), some (.int (i : Int)), some (.ref qa), some (.int q.n), some (.int q.s), some v, some (.int q.first), some (.int q.every), some (.int q.length), some (.int q.lag), some (.ref r), o12, o13, some (.int c4), o15, o16, o17] ∧ Ex H6 H' ∧ H' l5 = some (.lst (rgV 0 (if 30 < c4 then 30 else c4) ++ rgV (if q.first - 2 > 0 then q.first - 2 else 0) (q.first + 12) ++ [.int c4, .int (c4 - 1)]))) ⟨_, rfl, ((((Ex.new hl1).trans (Ex.new hl2)).trans (Ex.new hl3)).trans (Ex.new hl4)).trans (Ex.new hl5), upd_same⟩ (fun _ σ' H' _ ⟨_, _, _, h⟩ => sq_of h) ?_ ?_⟩
        · rintro kk x σ' H7 hx ⟨o15, rfl, e7, h5⟩
          obtain ⟨n, rfl, n0, n1⟩ : ∃ n, x = .int n ∧ 0 ≤ n ∧ n ≤ 1000000 := by
            rcases List.mem_append.mp (List.mem_of_getElem? hx) with hm | hm
            · rcases List.mem_append.mp hm with hm | hm
              · obtain ⟨n, rfl, h1, h2⟩ := mem_rgV hm
                exact ⟨n, rfl, h1, by split at h2 <;> omega⟩
              · obtain ⟨n, rfl, h1, h2⟩ := mem_rgV hm
                exact ⟨n, rfl, by split at h1 <;> omega, by have hq1 : q.first ≤ 1000 := by rw [show q.first = q0.first from by rw [hqd], ef]; exact hfi.2
                                                            omega⟩
            · simp at hm
              rcases hm with rfl | rfl
              · exact ⟨_, rfl, by omega, by omega⟩
              · exact ⟨_, rfl, by omega, by omega⟩
          rcases List.eq_nil_or_concat vs with z | ⟨ini, vL, eL⟩
          · rw [z] at g2; simp at g2; omega
          rw [List.concat_eq_append] at eL
          have hil : ini.length + 1 = N := by rw [← g2, eL, List.length_append]; rfl
          obtain ⟨uL, zL, rfl, huL, hzL⟩ := g3 ini.length vL (by rw [eL, List.getElem?_append_right (Nat.le_refl _), Nat.sub_self]; rfl)
          have hz0 : ((turnsOf q ini.length).map V.int)[0]? = some (.int (q.first + (ini.length : Int) * q.every)) := by
            unfold turnsOf
            rw [List.getElem?_map, List.getElem?_map, List.getElem?_range (by omega)]
            show some (V.int (q.first + (ini.length : Int) * q.every + ((0 : Nat) : Int))) = _
            rw [show q.first + (ini.length : Int) * q.every + ((0 : Nat) : Int) = q.first + (ini.length : Int) * q.every from by omega]
          have g1' := g1
          rw [eL] at g1'
          refine s_when (b := false) (et_is (et_and (a := decide (n < q.first + (ini.length : Int) * q.every)) (b := false) (et_test (ev_op (ev_var rfl) (ev_op (ev_op (ev_op (ev_var rfl) (ev_un ev_c ru_neg) (rv_ixL (sq_of (e7 _ _ g1')) (atI_last _ _))) ev_c (rv_ixT (v := .ref zL) (st_of (e7 _ _ huL)) rfl)) ev_c (rv_ixL (sq_of (e7 _ _ hzL)) (atI_nat (j := 0) hz0))) rv_I0)) fun hlt => et_not (a := true) (et_B (ev_cl (ea_cons (ev_var rfl) (ea_cons (ev_var rfl) (ea_cons (ev_var rfl) ea_nil))) fun H8 e8 Q qq E => ⟨qa, r, n, q, N, rfl, (hQ.ex (e6.trans e7)).ex e8, (hR0.ex e7).ex e8, ⟨by omega, by omega⟩, ⟨n0, n1⟩, by
            have := of_decide_eq_true hlt
            rw [show (N : Int) - 1 = (ini.length : Int) from by omega]
            exact this, fun H9 e9 => qq H9 e9⟩))) (Bool.and_false _)) (fun z => nomatch z) fun _ H8 e8 => ?_
          exact ⟨_, rfl, e7.trans e8, e8 _ _ h5⟩
        · rintro σ' H7 ⟨o15, rfl, e7, _⟩
          have e47 := e6.trans e7
          have b7 := hb4.ex e47
          refine q_dri (p := fun x => 1000 ≤ x ∧ x ≤ 101000) b7 (dri_I0 (p := fun x => x = 1000) (q := fun x => 0 ≤ x ∧ x < 100000) (dri_c rfl) (dri_take rfl (dri_I (p := fun x => x = 10) (q := fun x => x = 5) (dri_c rfl) (dri_c rfl) (fun i j hi hj => pow5 hi hj))) (by intros; omega)) fun far H8 s8 hfar => ?_
          have hQ8 := qat_step s8 b7 (hQ.ex e47)
          have b8 := s8.1
          clear hQ5 hQ
          -- w
          refine ⟨_, rfl, _, rfl, far, q.every, rfl, rfl, divW (by omega) (by omega), ?_⟩
          dsimp only [gName]
          have w0 := ediv_lo (a := far) (m := 0) he.1 (by decide) (by omega)
          have w1 := ediv_hi (a := far) (m := 101000) he.1 (by decide) (by omega)
          generalize far / q.every = ww at w0 w1 ⊢
          have w0 : 0 ≤ ww := by omega
          have ms := mul_small w0 (by omega) he.1 he.2
          have hcl : Ev (tOp (rI0 fun i j => V.int (i + j)) (tOp (rI0 fun i j => V.int (i - j)) (tOp (rI0 fun i j => V.int (i + j)) (tOp (rI0 fun i j => V.int (i + j)) (tVar 7) (tOp (rI CMul fun i j => V.int (i * j)) (tVar 12) (tVar 8))) (tVar 9)) (tC (V.int 1))) (tVar 10)) [some (.ref a), some (.ref b.1), some (.int (i : Int)), some (.ref qa), some (.int q.n), some (.int q.s), some v, some (.int q.first), some (.int q.every), some (.int q.length), some (.int q.lag), some (.ref r), some (.int ww), o13, some (.int c4), o15, some (.int far), o17] H8 (.int (q.closes ww)) :=
            ev_op (ev_op (ev_op (ev_op (ev_var rfl) (ev_op (ev_var rfl) (ev_var rfl) (rv_I (.inr ⟨by omega, by omega⟩))) rv_I0) (ev_var rfl) rv_I0) ev_c rv_I0) (ev_var rfl) rv_I0
          have cl8 : Ev (tCl (spCloses K) E0 (tCons (tVar 3) (tCons (tVar 12) tNil))) [some (.ref a), some (.ref b.1), some (.int (i : Int)), some (.ref qa), some (.int q.n), some (.int q.s), some v, some (.int q.first), some (.int q.every), some (.int q.length), some (.int q.lag), some (.ref r), some (.int ww), o13, some (.int c4), o15, some (.int far), o17] H8 (.int (q.closes ww)) := ev_cl (ea_cons (ev_var rfl) (ea_cons (ev_var rfl) ea_nil)) (fun H10 e10 Q qq E => ⟨qa, q, ww, rfl, hQ8.ex e10, qq⟩)
          refine q_when (b := false) (et_not (a := true) (et_B (ev_cl (ea_cons cl8 (ea_cons hcl ea_nil)) (sv_alike (.int _) (.int _) (rep_int (closes_small ok w0 (by omega))))))) (fun z => nomatch z) fun _ H9 e9 => ?_
          refine ⟨_, rfl, _, rfl, qa, q, ww, rfl, hQ8.ex e9, fun H10 e10 => ?_⟩
          have e810 := e9.trans e10
          obtain ⟨sc1, sc2⟩ := since_closes ok ww
          have ov : Ev (tCl (spOver K) E0 (tCons (tVar 3) (tCons (tVar 17) tNil))) [some (.ref a), some (.ref b.1), some (.int (i : Int)), some (.ref qa), some (.int q.n), some (.int q.s), some v, some (.int q.first), some (.int q.every), some (.int q.length), some (.int q.lag), some (.ref r), some (.int ww), o13, some (.int c4), o15, some (.int far), some (.int (q.closes ww))] H10 (.int (ww + 1)) := ev_cl (ea_cons (ev_var rfl) (ea_cons (ev_var rfl) ea_nil)) (fun H11 e11 Q qq E => ⟨qa, q, q.closes ww, rfl, (hQ8.ex e810).ex e11, by rw [sc1, if_pos (by omega)]; exact qq⟩)
          have cg : EvL (tCl (spClosing K) E0 (tCons (tVar 3) (tCons (tVar 17) tNil))) [some (.ref a), some (.ref b.1), some (.int (i : Int)), some (.ref qa), some (.int q.n), some (.int q.s), some v, some (.int q.first), some (.int q.every), some (.int q.length), some (.int q.lag), some (.ref r), some (.int ww), o13, some (.int c4), o15, some (.int far), some (.int (q.closes ww))] H10 [.int ww] := el_cl (ea_cons (ev_var rfl) (ea_cons (ev_var rfl) ea_nil)) (fun H11 e11 Q qq E => ⟨qa, q, q.closes ww, rfl, (hQ8.ex e810).ex e11, by rw [sc1, sc2, if_pos ⟨w0, rfl⟩]; exact qq⟩)
          have alike2 : Ev (tCl (Wm.spAlike K) E0 (tCons (tCl (spClosing K) E0 (tCons (tVar 3) (tCons (tVar 17) tNil))) (tCons (tLst (tCons (tVar 12) tNil)) tNil))) [some (.ref a), some (.ref b.1), some (.int (i : Int)), some (.ref qa), some (.int q.n), some (.int q.s), some v, some (.int q.first), some (.int q.every), some (.int q.length), some (.int q.lag), some (.ref r), some (.int ww), o13, some (.int c4), o15, some (.int far), some (.int (q.closes ww))] H10 (.bl true) := fun H11 e11 Q qq => by
            refine cg H11 e11 _ fun x H12 x0 e12 hx => ?_
            refine ⟨_, rfl, by show 1 ≤ sizeLine; decide, fun y hy => ?_⟩
            have hx2 := Ex.new (o := .lst [.int ww]) hy _ _ hx
            exact ⟨.ref x, .ref y, .list ([ww].map PyData.int), rfl, .lst (sq_of hx2) (.cons (.int _) .nil), .lst (sq_of upd_same) (.cons (.int _) .nil), rep_small (fun n hn => by rw [List.mem_singleton.mp hn]; exact Nat.lt_trans (show ww.natAbs < 101001 by omega) (by decide)) (by show 1 ≤ 10000; decide), fun H13 e13 => qq H13 (e12.trans ((Ex.new hy).trans e13))⟩
          dsimp only [gName]
          refine q_when (b := false) (et_or (a := false) (b := false) (et_not (a := true) (et_B (ev_cl (ea_cons ov (ea_cons (ev_op (ev_var rfl) ev_c rv_I0) ea_nil)) (sv_alike (.int _) (.int _) (rep_int (Nat.lt_trans (show (ww + 1).natAbs < 101002 by omega) (by decide))))))) fun _ => et_not (a := true) (et_B alike2)) (fun z => nomatch z) fun _ H11 e11 => ?_
          have e811 := e810.trans e11
          obtain ⟨wa1, wa2, wa3⟩ := win_at ok w0
          have win : ∀ {t : Int} {tt : TE}, (-1000000000 ≤ t ∧ t ≤ 1000000000) → (∀ H12, Ex H11 H12 → Ev tt [some (.ref a), some (.ref b.1), some (.int (i : Int)), some (.ref qa), some (.int q.n), some (.int q.s), some v, some (.int q.first), some (.int q.every), some (.int q.length), some (.int q.lag), some (.ref r), some (.int ww), o13, some (.int c4), o15, some (.int far), some (.int (q.closes ww))] H12 (.int t)) → EvL (tCl (spWindows K) E0 (tCons (tVar 3) (tCons tt tNil))) [some (.ref a), some (.ref b.1), some (.int (i : Int)), some (.ref qa), some (.int q.n), some (.int q.s), some v, some (.int q.first), some (.int q.every), some (.int q.length), some (.int q.lag), some (.ref r), some (.int ww), o13, some (.int c4), o15, some (.int far), some (.int (q.closes ww))] H11 (rgV (q.ended t) (q.begun t)) := fun {t tt} ht hte =>
            el_cl (ea_cons (ev_var rfl) (ea_cons (hte _ (Ex.refl _)) ea_nil)) (fun H12 e12 Q qq E => ⟨qa, q, t, rfl, (hQ8.ex e811).ex e12, ht, qq⟩)
          refine s_when (b := false) (et_or (a := false) (b := false) (et_test (ev_is (ev_opL (ev_var rfl) (win (t := q.first + ww * q.every) (tt := (tOp (rI0 fun i j => V.int (i + j)) (tVar 7) (tOp (rI CMul fun i j => V.int (i * j)) (tVar 12) (tVar 8)))) ⟨by omega, by omega⟩ fun H12 e12 => ev_op (ev_var rfl) (ev_op (ev_var rfl) (ev_var rfl) (rv_I (.inr ⟨by omega, by omega⟩))) rv_I0) fun p H12 hp e12 => rv_niL (sq_of hp) rfl (flat_rg _ _)) (by
            rw [in_rg, decide_eq_true ⟨wa2, by omega⟩]
            rfl))) fun _ => et_test (ev_is (ev_opL (ev_var rfl) (win (t := q.first + ww * q.every - 1) (tt := tOp (rI0 fun i j => V.int (i - j)) (tOp (rI0 fun i j => V.int (i + j)) (tVar 7) (tOp (rI CMul fun i j => V.int (i * j)) (tVar 12) (tVar 8))) (tC (V.int 1))) ⟨by omega, by omega⟩ fun H12 e12 => ev_op (ev_op (ev_var rfl) (ev_op (ev_var rfl) (ev_var rfl) (rv_I (.inr ⟨by omega, by omega⟩))) rv_I0) ev_c rv_I0) fun p H12 hp e12 => rv_isL (sq_of hp) rfl (flat_rg _ _)) (by
            rw [in_rg, decide_eq_false (by omega)]))) (fun z => nomatch z) fun _ H12 e12 => ?_
          exact ⟨_, _, _, _, _, _, _, _, _, _, _, _, _, _, _, _, rfl, b8.ex (e811.trans e12)⟩
    · rintro σ' H2 _
      exact s_ret ev_c fun H3 e3 => k _
end
end K62
end
section
set_option Elab.async false
set_option linter.all false
set_option maxRecDepth 100000
set_option maxHeartbeats 4000000
namespace K62
local macro_rules | `(tactic| walk_at "pos") => `(tactic| (show (0 : Int) < _; first | decide | omega))
open PySem PySem.Spec PyProof.Rows L2 Lf 
open Evl
local macro_rules | `(tactic| walk_at "lk") => `(tactic| (simp (disch := decide +kernel) only [lk_hit, lk_miss, lk_nil]))
local macro_rules | `(tactic| walk_at "pf") => `(tactic| (simp (disch := decide +kernel) only [pf_hit, pf_miss, pf_nil]))
theorem all_mk {l : PySem.W.OpenLaw} {w : World} {K : PySem.W.Frag} {h : Heap} {mg : Str → Option Value} {fa f_number_of f_numbers_in f_windows_of f_closes f_closing f_over f_since_closing f_plain_question f_plain_terms f_lw_bag f_lw_take f_lw_places f_lw_terms f_lw_same f_lw_turn_right f_law : Addr} (X : K.In h) (G : h.Ns mainGlobals mg) (hfa : mg "law" = some (.ref fa))
    {oc_number_of kV_number_of dc_number_of pm_number_of cd_number_of ct_number_of oc_numbers_in kV_numbers_in dc_numbers_in pm_numbers_in cd_numbers_in ct_numbers_in oc_windows_of kV_windows_of dc_windows_of pm_windows_of cd_windows_of ct_windows_of oc_closes kV_closes dc_closes pm_closes cd_closes ct_closes oc_closing kV_closing dc_closing pm_closing cd_closing ct_closing oc_over kV_over dc_over pm_over cd_over ct_over oc_since_closing kV_since_closing dc_since_closing pm_since_closing cd_since_closing ct_since_closing oc_plain_question kV_plain_question dc_plain_question pm_plain_question cd_plain_question ct_plain_question oc_plain_terms kV_plain_terms dc_plain_terms pm_plain_terms cd_plain_terms ct_plain_terms oc_lw_bag kV_lw_bag dc_lw_bag pm_lw_bag cd_lw_bag ct_lw_bag oc_lw_take kV_lw_take dc_lw_take pm_lw_take cd_lw_take ct_lw_take oc_lw_places kV_lw_places dc_lw_places pm_lw_places cd_lw_places ct_lw_places oc_lw_terms kV_lw_terms dc_lw_terms pm_lw_terms cd_lw_terms ct_lw_terms oc_lw_same kV_lw_same dc_lw_same pm_lw_same cd_lw_same ct_lw_same oc_lw_turn_right kV_lw_turn_right dc_lw_turn_right pm_lw_turn_right cd_lw_turn_right ct_lw_turn_right oc_law kV_law dc_law pm_law cd_law ct_law : Value} {od_number_of an_number_of od_numbers_in an_numbers_in od_windows_of an_windows_of od_closes an_closes od_closing an_closing od_over an_over od_since_closing an_since_closing od_plain_question an_plain_question od_plain_terms an_plain_terms od_lw_bag an_lw_bag od_lw_take an_lw_take od_lw_places an_lw_places od_lw_terms an_lw_terms od_lw_same an_lw_same od_lw_turn_right an_lw_turn_right od_law an_law : Option Addr} {sl_number_of sl_numbers_in sl_windows_of sl_closes sl_closing sl_over sl_since_closing sl_plain_question sl_plain_terms sl_lw_bag sl_lw_take sl_lw_places sl_lw_terms sl_lw_same sl_lw_turn_right sl_law : Array (Option Value)}
    (a_number_of : PySem.W.nsIn K mainGlobals "number_of" = some (some (.ref f_number_of)))
    (l_number_of : K.lookup f_number_of = some ⟨oc_number_of, od_number_of, .func (PySem.W.fnOf "number_of" "number_of" (defArgs s_number_of) (defBody s_number_of) (defScope s_number_of) .none kV_number_of dc_number_of pm_number_of an_number_of cd_number_of ct_number_of), sl_number_of⟩)
    (cdi_number_of : PySem.W.codeIn K cd_number_of "number_of" = true)
    (k_number_of : PySem.W.keepIn K (.ref f_number_of) = true)
    (a_numbers_in : PySem.W.nsIn K mainGlobals "numbers_in" = some (some (.ref f_numbers_in)))
    (l_numbers_in : K.lookup f_numbers_in = some ⟨oc_numbers_in, od_numbers_in, .func (PySem.W.fnOf "numbers_in" "numbers_in" (defArgs s_numbers_in) (defBody s_numbers_in) (defScope s_numbers_in) .none kV_numbers_in dc_numbers_in pm_numbers_in an_numbers_in cd_numbers_in ct_numbers_in), sl_numbers_in⟩)
    (cdi_numbers_in : PySem.W.codeIn K cd_numbers_in "numbers_in" = true)
    (k_numbers_in : PySem.W.keepIn K (.ref f_numbers_in) = true)
    (a_windows_of : PySem.W.nsIn K mainGlobals "windows_of" = some (some (.ref f_windows_of)))
    (l_windows_of : K.lookup f_windows_of = some ⟨oc_windows_of, od_windows_of, .func (PySem.W.fnOf "windows_of" "windows_of" (defArgs s_windows_of) (defBody s_windows_of) (defScope s_windows_of) .none kV_windows_of dc_windows_of pm_windows_of an_windows_of cd_windows_of ct_windows_of), sl_windows_of⟩)
    (cdi_windows_of : PySem.W.codeIn K cd_windows_of "windows_of" = true)
    (k_windows_of : PySem.W.keepIn K (.ref f_windows_of) = true)
    (a_closes : PySem.W.nsIn K mainGlobals "closes" = some (some (.ref f_closes)))
    (l_closes : K.lookup f_closes = some ⟨oc_closes, od_closes, .func (PySem.W.fnOf "closes" "closes" (defArgs s_closes) (defBody s_closes) (defScope s_closes) .none kV_closes dc_closes pm_closes an_closes cd_closes ct_closes), sl_closes⟩)
    (cdi_closes : PySem.W.codeIn K cd_closes "closes" = true)
    (k_closes : PySem.W.keepIn K (.ref f_closes) = true)
    (a_closing : PySem.W.nsIn K mainGlobals "closing" = some (some (.ref f_closing)))
    (l_closing : K.lookup f_closing = some ⟨oc_closing, od_closing, .func (PySem.W.fnOf "closing" "closing" (defArgs s_closing) (defBody s_closing) (defScope s_closing) .none kV_closing dc_closing pm_closing an_closing cd_closing ct_closing), sl_closing⟩)
    (cdi_closing : PySem.W.codeIn K cd_closing "closing" = true)
    (k_closing : PySem.W.keepIn K (.ref f_closing) = true)
    (a_over : PySem.W.nsIn K mainGlobals "over" = some (some (.ref f_over)))
    (l_over : K.lookup f_over = some ⟨oc_over, od_over, .func (PySem.W.fnOf "over" "over" (defArgs s_over) (defBody s_over) (defScope s_over) .none kV_over dc_over pm_over an_over cd_over ct_over), sl_over⟩)
    (cdi_over : PySem.W.codeIn K cd_over "over" = true)
    (k_over : PySem.W.keepIn K (.ref f_over) = true)
    (a_since_closing : PySem.W.nsIn K mainGlobals "since_closing" = some (some (.ref f_since_closing)))
    (l_since_closing : K.lookup f_since_closing = some ⟨oc_since_closing, od_since_closing, .func (PySem.W.fnOf "since_closing" "since_closing" (defArgs s_since_closing) (defBody s_since_closing) (defScope s_since_closing) .none kV_since_closing dc_since_closing pm_since_closing an_since_closing cd_since_closing ct_since_closing), sl_since_closing⟩)
    (cdi_since_closing : PySem.W.codeIn K cd_since_closing "since_closing" = true)
    (k_since_closing : PySem.W.keepIn K (.ref f_since_closing) = true)
    (a_plain_question : PySem.W.nsIn K mainGlobals "plain_question" = some (some (.ref f_plain_question)))
    (l_plain_question : K.lookup f_plain_question = some ⟨oc_plain_question, od_plain_question, .func (PySem.W.fnOf "plain_question" "plain_question" (defArgs s_plain_question) (defBody s_plain_question) (defScope s_plain_question) .none kV_plain_question dc_plain_question pm_plain_question an_plain_question cd_plain_question ct_plain_question), sl_plain_question⟩)
    (cdi_plain_question : PySem.W.codeIn K cd_plain_question "plain_question" = true)
    (k_plain_question : PySem.W.keepIn K (.ref f_plain_question) = true)
    (a_plain_terms : PySem.W.nsIn K mainGlobals "plain_terms" = some (some (.ref f_plain_terms)))
    (l_plain_terms : K.lookup f_plain_terms = some ⟨oc_plain_terms, od_plain_terms, .func (PySem.W.fnOf "plain_terms" "plain_terms" (defArgs s_plain_terms) (defBody s_plain_terms) (defScope s_plain_terms) .none kV_plain_terms dc_plain_terms pm_plain_terms an_plain_terms cd_plain_terms ct_plain_terms), sl_plain_terms⟩)
    (cdi_plain_terms : PySem.W.codeIn K cd_plain_terms "plain_terms" = true)
    (k_plain_terms : PySem.W.keepIn K (.ref f_plain_terms) = true)
    (a_lw_bag : PySem.W.nsIn K mainGlobals "_law_bag" = some (some (.ref f_lw_bag)))
    (l_lw_bag : K.lookup f_lw_bag = some ⟨oc_lw_bag, od_lw_bag, .func (PySem.W.fnOf "_law_bag" "_law_bag" (defArgs s_lw_bag) (defBody s_lw_bag) (defScope s_lw_bag) .none kV_lw_bag dc_lw_bag pm_lw_bag an_lw_bag cd_lw_bag ct_lw_bag), sl_lw_bag⟩)
    (cdi_lw_bag : PySem.W.codeIn K cd_lw_bag "_law_bag" = true)
    (k_lw_bag : PySem.W.keepIn K (.ref f_lw_bag) = true)
    (a_lw_take : PySem.W.nsIn K mainGlobals "_law_take" = some (some (.ref f_lw_take)))
    (l_lw_take : K.lookup f_lw_take = some ⟨oc_lw_take, od_lw_take, .func (PySem.W.fnOf "_law_take" "_law_take" (defArgs s_lw_take) (defBody s_lw_take) (defScope s_lw_take) .none kV_lw_take dc_lw_take pm_lw_take an_lw_take cd_lw_take ct_lw_take), sl_lw_take⟩)
    (cdi_lw_take : PySem.W.codeIn K cd_lw_take "_law_take" = true)
    (k_lw_take : PySem.W.keepIn K (.ref f_lw_take) = true)
    (a_lw_places : PySem.W.nsIn K mainGlobals "_law_places" = some (some (.ref f_lw_places)))
    (l_lw_places : K.lookup f_lw_places = some ⟨oc_lw_places, od_lw_places, .func (PySem.W.fnOf "_law_places" "_law_places" (defArgs s_lw_places) (defBody s_lw_places) (defScope s_lw_places) .none kV_lw_places dc_lw_places pm_lw_places an_lw_places cd_lw_places ct_lw_places), sl_lw_places⟩)
    (cdi_lw_places : PySem.W.codeIn K cd_lw_places "_law_places" = true)
    (k_lw_places : PySem.W.keepIn K (.ref f_lw_places) = true)
    (a_lw_terms : PySem.W.nsIn K mainGlobals "_law_terms" = some (some (.ref f_lw_terms)))
    (l_lw_terms : K.lookup f_lw_terms = some ⟨oc_lw_terms, od_lw_terms, .func (PySem.W.fnOf "_law_terms" "_law_terms" (defArgs s_lw_terms) (defBody s_lw_terms) (defScope s_lw_terms) .none kV_lw_terms dc_lw_terms pm_lw_terms an_lw_terms cd_lw_terms ct_lw_terms), sl_lw_terms⟩)
    (cdi_lw_terms : PySem.W.codeIn K cd_lw_terms "_law_terms" = true)
    (k_lw_terms : PySem.W.keepIn K (.ref f_lw_terms) = true)
    (a_lw_same : PySem.W.nsIn K mainGlobals "_law_same" = some (some (.ref f_lw_same)))
    (l_lw_same : K.lookup f_lw_same = some ⟨oc_lw_same, od_lw_same, .func (PySem.W.fnOf "_law_same" "_law_same" (defArgs s_lw_same) (defBody s_lw_same) (defScope s_lw_same) .none kV_lw_same dc_lw_same pm_lw_same an_lw_same cd_lw_same ct_lw_same), sl_lw_same⟩)
    (cdi_lw_same : PySem.W.codeIn K cd_lw_same "_law_same" = true)
    (k_lw_same : PySem.W.keepIn K (.ref f_lw_same) = true)
    (a_lw_turn_right : PySem.W.nsIn K mainGlobals "_law_turn_right" = some (some (.ref f_lw_turn_right)))
    (l_lw_turn_right : K.lookup f_lw_turn_right = some ⟨oc_lw_turn_right, od_lw_turn_right, .func (PySem.W.fnOf "_law_turn_right" "_law_turn_right" (defArgs s_lw_turn_right) (defBody s_lw_turn_right) (defScope s_lw_turn_right) .none kV_lw_turn_right dc_lw_turn_right pm_lw_turn_right an_lw_turn_right cd_lw_turn_right ct_lw_turn_right), sl_lw_turn_right⟩)
    (cdi_lw_turn_right : PySem.W.codeIn K cd_lw_turn_right "_law_turn_right" = true)
    (k_lw_turn_right : PySem.W.keepIn K (.ref f_lw_turn_right) = true)
    (z_abs : PySem.W.nsIn K mainGlobals "abs" = some none)
    (z_bool : PySem.W.nsIn K mainGlobals "bool" = some none)
    (z_divmod : PySem.W.nsIn K mainGlobals "divmod" = some none)
    (z_int : PySem.W.nsIn K mainGlobals "int" = some none)
    (z_isinstance : PySem.W.nsIn K mainGlobals "isinstance" = some none)
    (z_len : PySem.W.nsIn K mainGlobals "len" = some none)
    (z_list : PySem.W.nsIn K mainGlobals "list" = some none)
    (z_max : PySem.W.nsIn K mainGlobals "max" = some none)
    (z_min : PySem.W.nsIn K mainGlobals "min" = some none)
    (z_range : PySem.W.nsIn K mainGlobals "range" = some none)
    (z_repr : PySem.W.nsIn K mainGlobals "repr" = some none)
    (z_tuple : PySem.W.nsIn K mainGlobals "tuple" = some none)
    (a_law : PySem.W.nsIn K mainGlobals "law" = some (some (.ref f_law)))
    (l_law : K.lookup f_law = some ⟨oc_law, od_law, .func (PySem.W.fnOf "law" "law" (defArgs s_law) (defBody s_law) (defScope s_law) .none kV_law dc_law pm_law an_law cd_law ct_law), sl_law⟩)
    (cdi_law : PySem.W.codeIn K cd_law "law" = true)
    (k_law : PySem.W.keepIn K (.ref f_law) = true)
    : ∃ fd : FuncData, (∀ (s : Shared) (v : Value), BindsTo s fd ⟨[v], []⟩ [("_law_script", v)]) ∧ ∀ base : Heap, K.In base → base.Ns mainGlobals mg → Fn l.prog w K mg base CX0 12 fa fd ["_law_script"] (spLaw K) := by
  have e := hfa.symm.trans (PySem.W.mg_of X G a_law)
  cases e
  have F_number_of := fun_mk (st := s_number_of) l_number_of cdi_number_of k_number_of
  have b_number_of := F_number_of.binds (ps := ["thing"]) fun _ _ _ _ _ _ us hl => match us, hl with | [_], _ => rfl
  have F_numbers_in := fun_mk (st := s_numbers_in) l_numbers_in cdi_numbers_in k_numbers_in
  have b_numbers_in := F_numbers_in.binds (ps := ["things"]) fun _ _ _ _ _ _ us hl => match us, hl with | [_], _ => rfl
  have F_windows_of := fun_mk (st := s_windows_of) l_windows_of cdi_windows_of k_windows_of
  have b_windows_of := F_windows_of.binds (ps := ["question", "turn"]) fun _ _ _ _ _ _ us hl => match us, hl with | [_, _], _ => rfl
  have F_closes := fun_mk (st := s_closes) l_closes cdi_closes k_closes
  have b_closes := F_closes.binds (ps := ["question", "window"]) fun _ _ _ _ _ _ us hl => match us, hl with | [_, _], _ => rfl
  have F_closing := fun_mk (st := s_closing) l_closing cdi_closing k_closing
  have b_closing := F_closing.binds (ps := ["question", "turn"]) fun _ _ _ _ _ _ us hl => match us, hl with | [_, _], _ => rfl
  have F_over := fun_mk (st := s_over) l_over cdi_over k_over
  have b_over := F_over.binds (ps := ["question", "turn"]) fun _ _ _ _ _ _ us hl => match us, hl with | [_, _], _ => rfl
  have F_since_closing := fun_mk (st := s_since_closing) l_since_closing cdi_since_closing k_since_closing
  have b_since_closing := F_since_closing.binds (ps := ["question", "turn"]) fun _ _ _ _ _ _ us hl => match us, hl with | [_, _], _ => rfl
  have F_plain_question := fun_mk (st := s_plain_question) l_plain_question cdi_plain_question k_plain_question
  have b_plain_question := F_plain_question.binds (ps := ["question"]) fun _ _ _ _ _ _ us hl => match us, hl with | [_], _ => rfl
  have F_plain_terms := fun_mk (st := s_plain_terms) l_plain_terms cdi_plain_terms k_plain_terms
  have b_plain_terms := F_plain_terms.binds (ps := ["terms_of"]) fun _ _ _ _ _ _ us hl => match us, hl with | [_], _ => rfl
  have F_lw_bag := fun_mk (st := s_lw_bag) l_lw_bag cdi_lw_bag k_lw_bag
  have b_lw_bag := F_lw_bag.binds (ps := ["_law_script"]) fun _ _ _ _ _ _ us hl => match us, hl with | [_], _ => rfl
  have F_lw_take := fun_mk (st := s_lw_take) l_lw_take cdi_lw_take k_lw_take
  have b_lw_take := F_lw_take.binds (ps := ["_law_bag_here", "_law_many"]) fun _ _ _ _ _ _ us hl => match us, hl with | [_, _], _ => rfl
  have F_lw_places := fun_mk (st := s_lw_places) l_lw_places cdi_lw_places k_lw_places
  have b_lw_places := F_lw_places.binds (ps := ["_law_bag_here"]) fun _ _ _ _ _ _ us hl => match us, hl with | [_], _ => rfl
  have F_lw_terms := fun_mk (st := s_lw_terms) l_lw_terms cdi_lw_terms k_lw_terms
  have b_lw_terms := F_lw_terms.binds (ps := ["_law_bag_here", "_law_first"]) fun _ _ _ _ _ _ us hl => match us, hl with | [_, _], _ => rfl
  have F_lw_same := fun_mk (st := s_lw_same) l_lw_same cdi_lw_same k_lw_same
  have b_lw_same := F_lw_same.binds (ps := ["_law_found", "_law_due"]) fun _ _ _ _ _ _ us hl => match us, hl with | [_, _], _ => rfl
  have F_lw_turn_right := fun_mk (st := s_lw_turn_right) l_lw_turn_right cdi_lw_turn_right k_lw_turn_right
  have b_lw_turn_right := F_lw_turn_right.binds (ps := ["_law_question", "_law_turn", "_law_rows"]) fun _ _ _ _ _ _ us hl => match us, hl with | [_, _, _], _ => rfl
  have F_law := fun_mk (st := s_law) l_law cdi_law k_law
  have T : Top K mg  := {
    d_number_of := ⟨_, _, F_number_of, PySem.W.mg_of X G a_number_of, b_number_of⟩,
    d_numbers_in := ⟨_, _, F_numbers_in, PySem.W.mg_of X G a_numbers_in, b_numbers_in⟩,
    d_windows_of := ⟨_, _, F_windows_of, PySem.W.mg_of X G a_windows_of, b_windows_of⟩,
    d_closes := ⟨_, _, F_closes, PySem.W.mg_of X G a_closes, b_closes⟩,
    d_closing := ⟨_, _, F_closing, PySem.W.mg_of X G a_closing, b_closing⟩,
    d_over := ⟨_, _, F_over, PySem.W.mg_of X G a_over, b_over⟩,
    d_since_closing := ⟨_, _, F_since_closing, PySem.W.mg_of X G a_since_closing, b_since_closing⟩,
    d_plain_question := ⟨_, _, F_plain_question, PySem.W.mg_of X G a_plain_question, b_plain_question⟩,
    d_plain_terms := ⟨_, _, F_plain_terms, PySem.W.mg_of X G a_plain_terms, b_plain_terms⟩,
    d_lw_bag := ⟨_, _, F_lw_bag, PySem.W.mg_of X G a_lw_bag, b_lw_bag⟩,
    d_lw_take := ⟨_, _, F_lw_take, PySem.W.mg_of X G a_lw_take, b_lw_take⟩,
    d_lw_places := ⟨_, _, F_lw_places, PySem.W.mg_of X G a_lw_places, b_lw_places⟩,
    d_lw_terms := ⟨_, _, F_lw_terms, PySem.W.mg_of X G a_lw_terms, b_lw_terms⟩,
    d_lw_same := ⟨_, _, F_lw_same, PySem.W.mg_of X G a_lw_same, b_lw_same⟩,
    d_lw_turn_right := ⟨_, _, F_lw_turn_right, PySem.W.mg_of X G a_lw_turn_right, b_lw_turn_right⟩,
    n_abs := PySem.W.mg_none_of X G z_abs,
    n_bool := PySem.W.mg_none_of X G z_bool,
    n_divmod := PySem.W.mg_none_of X G z_divmod,
    n_int := PySem.W.mg_none_of X G z_int,
    n_isinstance := PySem.W.mg_none_of X G z_isinstance,
    n_len := PySem.W.mg_none_of X G z_len,
    n_list := PySem.W.mg_none_of X G z_list,
    n_max := PySem.W.mg_none_of X G z_max,
    n_min := PySem.W.mg_none_of X G z_min,
    n_range := PySem.W.mg_none_of X G z_range,
    n_repr := PySem.W.mg_none_of X G z_repr,
    n_tuple := PySem.W.mg_none_of X G z_tuple }
  refine ⟨PySem.W.fnOf "law" "law" (defArgs s_law) (defBody s_law) (defScope s_law) .none kV_law dc_law pm_law an_law cd_law ct_law, fun s v => .of_eq rfl, fun base _ _ => ?_⟩
  exact f_law T F_law
end K62
open PySem PySem.W PyProof.Rows in
set_option maxRecDepth 100000 in
set_option maxHeartbeats 0 in
theorem PySem.Challenge.cw_listenfield_k62_windows_by_turns_holds : PySem.Challenge.rw_listenfield_k62_windows_by_turns.Holds := by
  w_on; o_law; k_head; (case hw => w_witness2)
  k_fill
  refine Lf.walkG (l := PySem.Challenge.rw_listenfield_k62_windows_by_turns) (k := 12) (x := "_law_script") (sp := fun w => Lf.spLaw _) rfl rfl ⟨rfl, by decide, by decide⟩ (fun w h Y => PySem.W.kIn_of Y) ?F (fun _ _ a ns hl _ hS => ⟨a, ns, rfl, hS, hl, fun _ => rfl⟩)
  case F =>
    intro w mg fa h KX G hmg
    refine' K62.all_mk KX G hmg ?a_number_of ?l_number_of ?cdi_number_of ?k_number_of ?a_numbers_in ?l_numbers_in ?cdi_numbers_in ?k_numbers_in ?a_windows_of ?l_windows_of ?cdi_windows_of ?k_windows_of ?a_closes ?l_closes ?cdi_closes ?k_closes ?a_closing ?l_closing ?cdi_closing ?k_closing ?a_over ?l_over ?cdi_over ?k_over ?a_since_closing ?l_since_closing ?cdi_since_closing ?k_since_closing ?a_plain_question ?l_plain_question ?cdi_plain_question ?k_plain_question ?a_plain_terms ?l_plain_terms ?cdi_plain_terms ?k_plain_terms ?a_lw_bag ?l_lw_bag ?cdi_lw_bag ?k_lw_bag ?a_lw_take ?l_lw_take ?cdi_lw_take ?k_lw_take ?a_lw_places ?l_lw_places ?cdi_lw_places ?k_lw_places ?a_lw_terms ?l_lw_terms ?cdi_lw_terms ?k_lw_terms ?a_lw_same ?l_lw_same ?cdi_lw_same ?k_lw_same ?a_lw_turn_right ?l_lw_turn_right ?cdi_lw_turn_right ?k_lw_turn_right ?z_abs ?z_bool ?z_divmod ?z_int ?z_isinstance ?z_len ?z_list ?z_max ?z_min ?z_range ?z_repr ?z_tuple ?a_law ?l_law ?cdi_law ?k_law
    (case a_number_of => k_is)
    (case l_number_of => k_is)
    (case cdi_number_of => k_is)
    (case k_number_of => k_is)
    (case a_numbers_in => k_is)
    (case l_numbers_in => k_is)
    (case cdi_numbers_in => k_is)
    (case k_numbers_in => k_is)
    (case a_windows_of => k_is)
    (case l_windows_of => k_is)
    (case cdi_windows_of => k_is)
    (case k_windows_of => k_is)
    (case a_closes => k_is)
    (case l_closes => k_is)
    (case cdi_closes => k_is)
    (case k_closes => k_is)
    (case a_closing => k_is)
    (case l_closing => k_is)
    (case cdi_closing => k_is)
    (case k_closing => k_is)
    (case a_over => k_is)
    (case l_over => k_is)
    (case cdi_over => k_is)
    (case k_over => k_is)
    (case a_since_closing => k_is)
    (case l_since_closing => k_is)
    (case cdi_since_closing => k_is)
    (case k_since_closing => k_is)
    (case a_plain_question => k_is)
    (case l_plain_question => k_is)
    (case cdi_plain_question => k_is)
    (case k_plain_question => k_is)
    (case a_plain_terms => k_is)
    (case l_plain_terms => k_is)
    (case cdi_plain_terms => k_is)
    (case k_plain_terms => k_is)
    (case a_lw_bag => k_is)
    (case l_lw_bag => k_is)
    (case cdi_lw_bag => k_is)
    (case k_lw_bag => k_is)
    (case a_lw_take => k_is)
    (case l_lw_take => k_is)
    (case cdi_lw_take => k_is)
    (case k_lw_take => k_is)
    (case a_lw_places => k_is)
    (case l_lw_places => k_is)
    (case cdi_lw_places => k_is)
    (case k_lw_places => k_is)
    (case a_lw_terms => k_is)
    (case l_lw_terms => k_is)
    (case cdi_lw_terms => k_is)
    (case k_lw_terms => k_is)
    (case a_lw_same => k_is)
    (case l_lw_same => k_is)
    (case cdi_lw_same => k_is)
    (case k_lw_same => k_is)
    (case a_lw_turn_right => k_is)
    (case l_lw_turn_right => k_is)
    (case cdi_lw_turn_right => k_is)
    (case k_lw_turn_right => k_is)
    (case z_abs => k_is)
    (case z_bool => k_is)
    (case z_divmod => k_is)
    (case z_int => k_is)
    (case z_isinstance => k_is)
    (case z_len => k_is)
    (case z_list => k_is)
    (case z_max => k_is)
    (case z_min => k_is)
    (case z_range => k_is)
    (case z_repr => k_is)
    (case z_tuple => k_is)
    (case a_law => k_is)
    (case l_law => k_is)
    (case cdi_law => k_is)
    (case k_law => k_is)
end
