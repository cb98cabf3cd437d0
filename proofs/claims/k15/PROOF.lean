import PyProof.Rows.All
import Wide.All
import OpenK.AllK
import Wide.FinOn
import HandS.ForMost
import HandS.Sort
import HandS.IsInst
import HandS.Deep
import HandS.TupAny
import HandS.TryOnly
import HandS.Style
import HandS.Flow
import HandS.Codes
import HandS.Evl
import HandS.SortInts
import KE.KSortedM
import HandS.Zip
import HandS.List
import PySem.Challenge.RW_listenfield_k15_whole_roads_and_cuts
section
set_option Elab.async false
set_option linter.all false
set_option maxRecDepth 100000
set_option maxHeartbeats 4000000
/-! Lf: rules and words of our own over the hand layer (listenfield laws). -/
namespace Lf
open PySem PySem.Spec PyProof.Rows L2
theorem q_rng_item (r : Addr) (a b i : Int) (t u v k : Tok) (j : Int) (hj : j = if i < 0 then i + Builtin.Range.rangeSize a b 1 else i) (h0 : 0 ≤ j) (h1 : j < Builtin.Range.rangeSize a b 1) :
    Meets (Builtin.«range.__getitem__» ⟨[.ref r, .int i k], []⟩) (fun _ R s => s.heap.get? r = some { cls := .type "range", dict := none, data := .fields #[.int a t, .int b u, .int 1 v], slots := #[] } ∧ R (.ok (.ret (.int (a + j * 1) s.toks))) { s with toks := s.toks + 1 }) :=
  .of_wp fun prog w A R s h => by
    obtain ⟨hp, g, d, tk, os⟩ := s; obtain ⟨hl, h⟩ := h
    have e : (decide (j < 0) || decide (j ≥ Builtin.Range.rangeSize a b 1)) = false := by
      rw [decide_eq_false (by omega), decide_eq_false (by omega)]; rfl
    have f1 := PySem.AutoSeq1.idx_int
    wp_walk
    rw [← hj, e]
    wp_walk
    exact ⟨_, rfl, h⟩
theorem get_rng {prog : Program} {w : World} {A : Around} {E : Value → Shared → Prop} {s : Shared} {r : Addr} {a b i : Int} {t u v k : Tok} {Q : Value → Shared → Prop} (ho : s.heap.get? r = some { cls := .type "range", dict := none, data := .fields #[.int a t, .int b u, .int 1 v], slots := #[] }) (j : Int) (hj : j = if i < 0 then i + Builtin.Range.rangeSize a b 1 else i) (h0 : 0 ≤ j) (h1 : j < Builtin.Range.rangeSize a b 1)
    (h : Q (.int (a + j * 1) s.toks) { s with toks := s.toks + 1 }) : wpAny (model prog w) A (getItem (.ref r) (.int i k)) Q E s := by
  have hT : s.TypeIs (.ref r) "range" := ⟨_, ho, rfl⟩
  exact wpAny_getItem_slot hT (by decide +kernel) F.slot_range_getitem (call_meets F.slot_range_getitem hT F.entry_range_getitem (F.args_range_getitem_2 _ _) (q_rng_item r a b i t u v k j hj h0 h1) ⟨ho, h⟩)
section
variable {X : Cx}
/-- r[i] of a range object, i from 0 or from the end -/
def rIxR : R2 := fun x y H Q => ∃ p lo hi i j, x = .ref p ∧ y = .int i ∧ H p = some (.rng lo hi) ∧ (j = if i < 0 then i + (hi - lo) else i) ∧ (0 ≤ j ∧ lo + j < hi) ∧ Q (.int (lo + j)) H
theorem ix_rng : IxR X rIxR := by
  intro value slice pins s σ H x y v u Q I rx ry h hs
  obtain ⟨p, lo, hi, i, j, rfl, rfl, hq, hj, ⟨h0, h1⟩, q⟩ := h
  cases rx
  obtain ⟨k, rfl⟩ := ry
  obtain ⟨t1, t2, t3, ho⟩ := I.hok p _ hq
  have hT : s.TypeIs (.ref p) "range" := ⟨_, ho, rfl⟩
  have hz : Builtin.Range.rangeSize lo hi 1 = hi - lo := by rw [rangeSize_one, if_pos (by omega)]
  refine tail_any hT F.slot_range_getitem.lookup (get_rng ho j (by rw [hz]; exact hj) h0 (by omega) ⟨.int (lo + j), H, I.tok _, ?_, q⟩) hs
  rw [Int.mul_one]
  exact ⟨_, rfl⟩
/-- xs[i], by values -/
theorem get_list : PGet X (rIxL X.K) := by
  intro pins s σ H x y v u Q I rx ry h
  obtain ⟨p, xs, i, z, rfl, rfl, hq, he, q⟩ := h
  cases rx
  obtain ⟨t, rfl⟩ := ry
  obtain ⟨its, r, pl, hz⟩ := I.list hq
  obtain ⟨j, h1, h2, h3, h4, h5⟩ := atI_get he
  obtain ⟨w, ew, rw'⟩ := r.get h2
  have hl := r.length
  have hn := line63
  have fin : EP X pins σ Q w s := ⟨z, H, I, rw', q⟩
  by_cases h0 : 0 ≤ i
  · have hj : i.toNat = j := by
      rw [seqIndex_of h0 h5] at h1
      exact Option.some.inj h1
    exact wpAny_getItem_list pl.isList h0 (by omega) (by rw [hj]; simpa using ew) fin
  · have hj : (i + (its.toArray.size : Int)).toNat = j := by
      rw [seqIndex_neg (by omega) h4] at h1
      rw [List.size_toArray, ← hl]
      exact Option.some.inj h1
    exact wpAny_getItem_list_neg pl.isList (by omega) (by rw [List.size_toArray] <;> omega) (by omega) (by rw [hj]; simpa using ew) fin
/-- range(n) as a value -/
theorem cr_range1 : CallR X (.type "range") (fun vs H Q => ∃ j, vs = [V.int j] ∧ ∀ p, H p = none → Q (.ref p) (upd H p (.rng 0 j))) := by
  intro pins s σ H vs us Q I r h
  obtain ⟨j, rfl, q⟩ := h
  obtain ⟨u1, rfl, t, rfl⟩ := vals1 r
  refine call_range_1 ⟨.ref s.heap.objs.size, upd H s.heap.objs.size (.rng 0 j), I.laid (t' := s.toks + 1 + 1) (fun b o e => Heap.get?_push_of_some _ e) (Nat.le_refl _) ?_, rfl, q _ (I.hok.fresh (Nat.le_refl _))⟩
  exact ⟨s.toks, t, s.toks + 1, Heap.get?_push_size _ rfl⟩
end

/-! ### defs under known guards: repr of a list asks that nobody is being shown around it -/
structure Fn (P : Program) (w : World) (K : PySem.W.Frag) (mg : Str → Option Value) (base : Heap) (CX : CXT) (k : Nat) (f : Addr) (fd : FuncData) (ps : List Str) (sp : Sp) : Prop where
  many : ∀ vs H Q E, sp vs H Q E → vs.length = ps.length
  go : ∀ (A : Around) (outer : List Env) (s : Shared) (H : Hp) (args : Args) (us : List Value) (vs : List V) (Q : VK) (E : XK), A.guards = some [] → Room k A →
    Env0 P w K mg base A outer s H → BindsTo s fd args (ps.zip us) → Vals vs us → sp vs H Q E → codeAny (model P w) A (.call (.ref f) args) (CR CX outer P w H s Q E) s
section
variable {X : Cx} {CX : CXT} {k j : Nat} {f C : Addr} {fd : FuncData} {ps : List Str} {sp : Sp} {E : XK}
theorem Fn.ran {pins : List (Addr × Obj)} {σ : L2.St} {H : Hp} {s : Shared} {Q : VK} {us : List Value} {vs : List V} (F : Fn X.prog X.w X.K X.mg X.base CX k f fd ps sp) (g : X.A.guards = some []) (hr : Room k X.A)
    (hb : Binds X.K fd ps []) (hx : Passes CX X E) (I : Inv X pins σ H s) (r : Vals vs us) (h : sp vs H Q E) : wpAny (model X.prog X.w) X.A (call (.ref f) us) (EP X pins σ Q) X.xe s := by
  have n1 : us.length = ps.length := by
    rw [← F.many _ _ _ _ h]
    exact r.length.symm
  have b1 := hb s us I.kIn (by rw [List.append_nil]; exact n1)
  rw [List.append_nil] at b1
  refine wpAny_call (codeAny_mono (F.go _ _ _ _ _ us vs Q E g hr I.env0 b1 r h) ?_)
  intro res s' hq
  rcases res with e | fl
  · exact hx _ _ _ _ _ _ I hq
  · cases fl
    case ret u => exact I.after hq
    all_goals exact hq.elim
theorem Fn.made {pins : List (Addr × Obj)} {σ : L2.St} {H : Hp} {s : Shared} {Q : VK} {us : List Value} {vs : List V} (M : Mk X.K C f) (F : Fn X.prog X.w X.K X.mg X.base CX k f fd ps sp) (g : X.A.guards = some []) (hr : Room (k + 1) X.A)
    (hb : Binds X.K fd ps []) (hx : Passes CX X E) (I : Inv X pins σ H s) (r : Vals vs us)
    (h : ∀ x dx, H x = none → H dx = none → dx ≠ x → sp (.ref x :: vs) (upd (upd H dx (.own x)) x (.ins C dx [])) (fun v H2 => v = .non ∧ Q (.ref x) H2) E) :
    wpAny (model X.prog X.w) X.A (call (.ref C) us) (EP X pins σ Q) X.xe s := by
  have f0 : H s.heap.objs.size = none := I.hok.fresh (Nat.le_refl _)
  have f1 : H (s.heap.objs.size + 1) = none := I.hok.fresh (Nat.le_succ _)
  have h1 := h _ _ f1 f0 (Nat.ne_of_lt (Nat.lt_succ_self _))
  have I1 := Inv.made (C := C) I
  have r1 : Vals (V.ref (s.heap.objs.size + 1) :: vs) (Value.ref (s.heap.objs.size + 1) :: us) := .cons rfl r
  have n1 : (Value.ref (s.heap.objs.size + 1) :: us).length = ps.length := by
    rw [← F.many _ _ _ _ h1]
    exact r1.length.symm
  have b1 := hb _ _ I1.kIn (show (Value.ref (s.heap.objs.size + 1) :: us ++ []).length = ps.length by rw [List.append_nil]; exact n1)
  rw [List.append_nil] at b1
  have g1 : (X.A.under (.builtin "type.__call__" ⟨.ref C :: us, []⟩)).guards = some [] := by
    unfold Around.under
    simp only [g]
    first | rfl | simp [pushGuards, Code.guards, Code.isGuard, guardIds]
  refine wpAny_call (make_map (f := f) I.kIn M.makes M.init (beq_iff_eq.mp M.fn) (codeAny_mono (F.go _ _ _ _ _ _ _ _ E g1 (hr.make C us []) (I1.env0.make C us []) b1 r1 h1) ?_))
  intro res s' hq
  rcases res with e | fl
  · exact hx _ _ _ _ _ _ I1 hq
  · cases fl
    case ret u =>
      obtain ⟨v, H', I2, rv, ev, q2⟩ := I1.after hq
      subst ev
      exact ⟨rv, ⟨V.ref (s.heap.objs.size + 1), H', I2, rfl, q2⟩⟩
    all_goals exact hq.elim
end
/-- a def that may be called by its name -/
structure Cal (P : Program) (w : World) (K : PySem.W.Frag) (mg : Str → Option Value) (base : Heap) (CX : CXT) (k : Nat) (x : Str) (sp : Sp) : Prop where
  ex : ∃ (f : Addr) (fd : FuncData) (ps : List Str), Fn P w K mg base CX k f fd ps sp ∧ mg x = some (.ref f) ∧ PySem.W.keepIn K (.ref f) = true ∧ Binds K fd ps []
/-- a method of the class at C -/
structure Met (P : Program) (w : World) (K : PySem.W.Frag) (mg : Str → Option Value) (base : Heap) (CX : CXT) (k : Nat) (C : Addr) (m : Str) (sp : Sp) : Prop where
  ex : ∃ (f : Addr) (fd : FuncData) (ps : List Str), Cls K C ∧ Meth K C m f ∧ Fn P w K mg base CX k f fd ps sp ∧ Binds K fd ps []
/-- a class that is made by its name, sp its __init__ -/
structure Mak (P : Program) (w : World) (K : PySem.W.Frag) (mg : Str → Option Value) (base : Heap) (CX : CXT) (k : Nat) (x : Str) (C : Addr) (sp : Sp) : Prop where
  ex : ∃ (f : Addr) (fd : FuncData) (ps : List Str), Mk K C f ∧ Fn P w K mg base CX k f fd ps sp ∧ mg x = some (.ref C) ∧ Binds K fd ps []
section
variable {X : Cx} {CX : CXT} {k j : Nat} {C : Addr} {sp : Sp} {E : XK} {x m : Str} {p pos apos : Pos} {e o : Expr} {es : List Expr} {ta : TE} {t : TA}
def tCl (sp : Sp) (E : XK) (t : TA) : TE := fun σ H Q => t σ H fun vs H1 => sp vs H1 Q E
def tMt (C : Addr) (m : Str) (sp : Sp) (E : XK) (ta : TE) (t : TA) : TE := fun σ H Q => ta σ H fun x H1 => ∃ a dx fs, x = .ref a ∧ H1 a = some (.ins C dx fs) ∧ fs.lookup m = none ∧ t σ H1 fun vs H2 => sp (x :: vs) H2 Q E
def tMk (C : Addr) (sp : Sp) (E : XK) (t : TA) : TE := fun σ H Q => t σ H fun vs H1 => ∀ x dx, H1 x = none → H1 dx = none → dx ≠ x → sp (.ref x :: vs) (upd (upd H1 dx (.own x)) x (.ins C dx [])) (fun v H2 => v = .non ∧ Q (.ref x) H2) E
theorem ec (c : Cal X.prog X.w X.K X.mg X.base CX k x sp) (g : X.A.guards = some []) (hr : Room j X.A) (hk : k ≤ j) (hx : Passes CX X E) (hg : Gl X x) (ha : PA X (e :: es) t)
    (hdb : (x == ("__debug__" : Str)) = false := by decide) (he : starEach (e :: es) X.env = (false, eval e X.env) :: starEach es X.env := by rfl) (hpl : (backTo pos (starEach es X.env)).any (·.1) = false := by rfl) :
    PE X (.Call (.Name x p) (e :: es) [] pos) (tCl sp E t) := by
  obtain ⟨f, fd, ps, F, hm, kp, b⟩ := c.ex
  constructor
  intro pins s σ H Q I h
  apply wpAny_Call_Name_kw
  refine ld_glob I hg hm (PySem.W.callWith_K (h₀ := X.base) I.ok.mod.kin kp (thn (ha.run pos pins s σ H _ I h) ?_) he hpl) hdb
  rintro us s1 ⟨vs, H1, I1, r, q⟩
  exact ⟨I1.kIn, F.ran g (hr.mono hk) b hx I1 r q⟩
theorem emk (c : Mak X.prog X.w X.K X.mg X.base CX k x C sp) (g : X.A.guards = some []) (hr : Room j X.A) (hk : k + 1 ≤ j) (hx : Passes CX X E) (hg : Gl X x) (ha : PA X (e :: es) t)
    (hdb : (x == ("__debug__" : Str)) = false := by decide) (he : starEach (e :: es) X.env = (false, eval e X.env) :: starEach es X.env := by rfl) (hpl : (backTo pos (starEach es X.env)).any (·.1) = false := by rfl) :
    PE X (.Call (.Name x p) (e :: es) [] pos) (tMk C sp E t) := by
  obtain ⟨f, fd, ps, M, F, hm, b⟩ := c.ex
  constructor
  intro pins s σ H Q I h
  apply wpAny_Call_Name_kw
  refine ld_glob I hg hm (PySem.W.callWith_K (h₀ := X.base) I.ok.mod.kin M.kp (thn (ha.run pos pins s σ H _ I h) ?_) he hpl) hdb
  rintro us s1 ⟨vs, H1, I1, r, q⟩
  exact ⟨I1.kIn, F.made M g (hr.mono hk) b hx I1 r q⟩
theorem emt {pl : Sem Bool} (c : Met X.prog X.w X.K X.mg X.base CX k C m sp) (g : X.A.guards = some []) (hr : Room j X.A) (hk : k ≤ j) (hx : Passes CX X E) (he : PE X o ta) (ha : PA X (e :: es) t)
    (hst : starEach (e :: es) X.env = (false, eval e X.env) :: starEach es X.env := by rfl) (hpl : (backTo pos (starEach es X.env)).any (·.1) = false := by rfl)
    (ht : eval (.Call (.Attribute o m apos) (e :: es) [] pos) X.env = (do
      let ov ← eval o X.env
      standAt apos.atName
      let (f, first) ← holding [ov] (getMethod ov m pl)
      callWith pos f first (backTo pos (starEach (e :: es) X.env)) (backToKw pos (keywordEach [] X.env))) := by rfl) :
    PE X (.Call (.Attribute o m apos) (e :: es) [] pos) (tMt C m sp E ta t) := by
  obtain ⟨f, fd, ps, hc, hm, F, b⟩ := c.ex
  constructor
  intro pins s σ H Q I h
  refine PySem.W.methodCall_KW (pl := pl) (thn (he.run pins s σ H _ I h) ?_) ht
  rintro u s1 ⟨x, H1, I1, rx, a, dx, fs, rfl, ea, l, q⟩
  obtain rfl : u = Value.ref a := rx
  refine getmeth_ok I1 ea hc hm l (PySem.W.callWith_K (first := [.ref a]) (h₀ := X.base) I.ok.mod.kin hm.kp (thn (ha.run pos pins s1 σ H1 _ I1 q) ?_) hst hpl)
  rintro us s2 ⟨vs, H2, I2, r, q2⟩
  exact ⟨I2.kIn, F.ran (us := .ref a :: us) (vs := .ref a :: vs) g (hr.mono hk) b hx I2 (.cons rfl r) q2⟩
theorem emt0 {pl : Sem Bool} (c : Met X.prog X.w X.K X.mg X.base CX k C m sp) (g : X.A.guards = some []) (hr : Room j X.A) (hk : k ≤ j) (hx : Passes CX X E) (he : PE X o ta)
    (ht : eval (.Call (.Attribute o m apos) [] [] pos) X.env = (do
      let ov ← eval o X.env
      standAt apos.atName
      let (f, first) ← holding [ov] (getMethod ov m pl)
      callWith pos f first (backTo pos (starEach [] X.env)) (backToKw pos (keywordEach [] X.env))) := by rfl) :
    PE X (.Call (.Attribute o m apos) [] [] pos) (tMt C m sp E ta tNil) := by
  obtain ⟨f, fd, ps, hc, hm, F, b⟩ := c.ex
  constructor
  intro pins s σ H Q I h
  refine PySem.W.methodCall_KW (pl := pl) (thn (he.run pins s σ H _ I h) ?_) ht
  rintro u s1 ⟨x, H1, I1, rx, a, dx, fs, rfl, ea, l, q⟩
  obtain rfl : u = Value.ref a := rx
  exact getmeth_ok I1 ea hc hm l (PySem.W.callWith_K0 (first := [.ref a]) I1.kIn hm.kp (F.ran (us := [.ref a]) (vs := [.ref a]) g (hr.mono hk) b hx I1 (.cons rfl .nil) q))
end
/-! ### a def by its body -/
theorem fnG {CX : CXT} {P : Program} {w : World} {K : PySem.W.Frag} {mg : Str → Option Value} {base : Heap} {k : Nat} {x qual : Str} {st : Stmt} {f : Addr} {fd : FuncData} {N ps : List Str} {sp : Sp} (D : L2.Fun K x qual st f fd) (S : FnScope N ps (defScope st))
    (many : ∀ vs H Q E, sp vs H Q E → vs.length = ps.length)
    (body : ∀ (cdv : Value) (A : Around) (outer : List Env) (s : Shared) (H : Hp) (vs : List V) (Q : VK) (E : XK), A.guards = some [] → Room k (A.deeper (envOfC qual (defScope st) s.heap.objs.size f cdv)) → sp vs H Q E →
      ∃ t, PSs (cxOf CX P w K mg base N qual (defScope st) f cdv A outer s H E) (defBody st) t ∧ t { nx := fun _ H' => Q .non H', rt := Q } (start N vs) H) : Fn P w K mg base CX (k + 1) f fd ps sp := by
  obtain ⟨oc, od, kV, doc, pm, an, cdv, ct, osl, rfl, lk, hcd⟩ := D.ex
  refine ⟨many, ?_⟩
  intro A outer s H args us vs Q E g hr e0 hb r hsp
  have up : ∀ b o, base.get? b = some o → s.heap.get? b = some o := fun b o e => (e0.bs b o e).1
  have kin : K.In s.heap := e0.mod.kin.keeps up
  refine codeAny_call_function hr.depth (kin _ _ lk) rfl S.co S.gen rfl (PySem.W.codeRec_of kin hcd) (hb _ _ _ _ ?_)
  refine wpAny_newFunctionEnv_cells S.kind ?_ ?_
  · rintro ⟨n, v⟩ hy
    have hp := (List.of_mem_zip hy).1
    refine (S.par n hp).imp id fun q => ⟨q, PySem.W.cellsFrom_some _ _ _ (.inl q)⟩
  · rintro env rfl s1 x1
    refine ⟨(e0.mod.nolimit.keeps up).keeps x1.toInCall.keep, codeAny_func ?_⟩
    obtain ⟨t, ht, hq⟩ := body cdv A outer s H vs Q E g (hr.deeper _) hsp
    refine wpAny_mono (ht.run [] s1 (start N vs) H _ (inv_start S hr.hd e0 (many _ _ _ _ hsp) r x1) hq) ?_ (fun e s' hs => hs)
    intro fl s' hs
    cases fl
    case ret u =>
      obtain ⟨v, σ', H', J, rv, q⟩ := hs
      exact ⟨v, H', J.os, J.bare, J.base, J.hok, rv, q⟩
    case next =>
      obtain ⟨σ', H', J, q⟩ := hs
      exact ⟨V.non, H', J.os, J.bare, J.base, J.hok, rfl, q⟩
    case brk => exact (let ⟨_, _, _, q⟩ := hs; False.elim q)
    case cont => exact (let ⟨_, _, _, q⟩ := hs; False.elim q)
theorem fn0G {P : Program} {w : World} {K : PySem.W.Frag} {mg : Str → Option Value} {base : Heap} {k : Nat} {x qual : Str} {st : Stmt} {f : Addr} {fd : FuncData} {N ps : List Str} {sp : Sp} (D : L2.Fun K x qual st f fd) (S : FnScope N ps (defScope st))
    (many : ∀ vs H Q E, sp vs H Q E → vs.length = ps.length)
    (body : ∀ (cdv : Value) (A : Around) (outer : List Env) (s : Shared) (H : Hp) (vs : List V) (Q : VK) (E : XK), A.guards = some [] → Room k (A.deeper (envOfC qual (defScope st) s.heap.objs.size f cdv)) → sp vs H Q E →
      ∃ t, PSs (cxOf CX0 P w K mg base N qual (defScope st) f cdv A outer s H E).nox (defBody st) t ∧ t { nx := fun _ H' => Q .non H', rt := Q } (start N vs) H) : Fn P w K mg base CX0 (k + 1) f fd ps sp :=
  fnG D S many fun cdv A outer s H vs Q E g hr h => let ⟨t, ht, q⟩ := body cdv A outer s H vs Q E g hr h; ⟨t, ht.nox, q⟩
/-- a def of the module as the top left it -/
structure Df (K : PySem.W.Frag) (mg : Str → Option Value) (x : Str) (st : Stmt) (ps : List Str) : Prop where
  ex : ∃ (f : Addr) (fd : FuncData), L2.Fun K x x st f fd ∧ mg x = some (.ref f) ∧ Binds K fd ps []
/-- a method as the top left it -/
structure Md (K : PySem.W.Frag) (C : Addr) (m qual : Str) (st : Stmt) (ps : List Str) : Prop where
  ex : ∃ (f : Addr) (fd : FuncData), L2.Fun K m qual st f fd ∧ Meth K C m f ∧ Binds K fd ps []
section
variable {P : Program} {w : World} {K : PySem.W.Frag} {mg : Str → Option Value} {base : Heap} {k : Nat} {x m qual : Str} {st : Stmt} {N ps : List Str} {sp : Sp} {C : Addr}
theorem Df.cal (D : Df K mg x st ps) (S : FnScope N ps (defScope st)) (many : ∀ vs H Q E, sp vs H Q E → vs.length = ps.length)
    (body : ∀ (f : Addr) (cdv : Value) (A : Around) (outer : List Env) (s : Shared) (H : Hp) (vs : List V) (Q : VK) (E : XK), A.guards = some [] → Room k (A.deeper (envOfC x (defScope st) s.heap.objs.size f cdv)) → sp vs H Q E →
      ∃ t, PSs (cxOf CX0 P w K mg base N x (defScope st) f cdv A outer s H E).nox (defBody st) t ∧ t { nx := fun _ H' => Q .non H', rt := Q } (start N vs) H) : Cal P w K mg base CX0 (k + 1) x sp := by
  obtain ⟨f, fd, F, hm, b⟩ := D.ex
  refine ⟨f, fd, ps, fnG F S many (fun cdv A outer s H vs Q E g hr h => ?_), hm, F.kp, b⟩
  obtain ⟨t, ht, q⟩ := body f cdv A outer s H vs Q E g hr h
  exact ⟨t, ht.nox, q⟩
theorem Md.met (D : Md K C m qual st ps) (c : Cls K C) (S : FnScope N ps (defScope st)) (many : ∀ vs H Q E, sp vs H Q E → vs.length = ps.length)
    (body : ∀ (f : Addr) (cdv : Value) (A : Around) (outer : List Env) (s : Shared) (H : Hp) (vs : List V) (Q : VK) (E : XK), A.guards = some [] → Room k (A.deeper (envOfC qual (defScope st) s.heap.objs.size f cdv)) → sp vs H Q E →
      ∃ t, PSs (cxOf CX0 P w K mg base N qual (defScope st) f cdv A outer s H E).nox (defBody st) t ∧ t { nx := fun _ H' => Q .non H', rt := Q } (start N vs) H) : Met P w K mg base CX0 (k + 1) C m sp := by
  obtain ⟨f, fd, F, hm, b⟩ := D.ex
  refine ⟨f, fd, ps, c, hm, fnG F S many (fun cdv A outer s H vs Q E g hr h => ?_), b⟩
  obtain ⟨t, ht, q⟩ := body f cdv A outer s H vs Q E g hr h
  exact ⟨t, ht.nox, q⟩
theorem Md.mak (D : Md K C "__init__" qual st ps) (hm : mg x = some (.ref C)) (M : ∀ f, Meth K C "__init__" f → Mk K C f) (S : FnScope N ps (defScope st)) (many : ∀ vs H Q E, sp vs H Q E → vs.length = ps.length)
    (body : ∀ (f : Addr) (cdv : Value) (A : Around) (outer : List Env) (s : Shared) (H : Hp) (vs : List V) (Q : VK) (E : XK), A.guards = some [] → Room k (A.deeper (envOfC qual (defScope st) s.heap.objs.size f cdv)) → sp vs H Q E →
      ∃ t, PSs (cxOf CX0 P w K mg base N qual (defScope st) f cdv A outer s H E).nox (defBody st) t ∧ t { nx := fun _ H' => Q .non H', rt := Q } (start N vs) H) : Mak P w K mg base CX0 (k + 1) x C sp := by
  obtain ⟨f, fd, F, me, b⟩ := D.ex
  refine ⟨f, fd, ps, M f me, fnG F S many (fun cdv A outer s H vs Q E g hr h => ?_), hm, b⟩
  obtain ⟨t, ht, q⟩ := body f cdv A outer s H vs Q E g hr h
  exact ⟨t, ht.nox, q⟩
end
end Lf
end
section
set_option Elab.async false
set_option linter.all false
set_option maxRecDepth 100000
set_option maxHeartbeats 4000000
namespace Lf
open PySem PySem.Spec PyProof.Rows L2
/-! ### the law's call -/
/-- the heap at the law's entry, as far as it is told: nothing, or the script alone -/
theorem lawG0 {P : Program} {w : World} {K : PySem.W.Frag} {mg mb : Str → Option Value} {k : Nat} {fa a : Addr} {fd : FuncData} {x : Str} {sp : Sp} {s : Shared} {vs : List Value}
    (KX : K.In s.heap) (hns : s.heap.Ns mainGlobals mg) (hb : s.heap.Ns builtinsNs mb) (hbb : ∀ x : Str, x ≠ "__name__" → mb x = bootBuiltins x) (lim : s.heap.NoLimit) (hg : s.gens = #[])
    (ha : s.heap.get? a = some { cls := .type "list", data := .seq vs.toArray }) (F : ∀ base : Heap, K.In base → base.Ns mainGlobals mg → Fn P w K mg base CX0 k fa fd [x] sp)
    (hbind : ∀ (s : Shared) (u : Value), BindsTo s fd ⟨[u], []⟩ [(x, u)]) (hr : Room k callerA) (H : Hp) (hO : Only H) (hok : HOk P w H s.heap) (hA : ∀ b, H b ≠ none → b = a ∧ K.lookup a = none)
    (hsp : sp [.ref a] H (fun v _ => v = .bl true) fun _ _ _ => False) :
    codeAny (model P w) callerA (.call (.ref fa) ⟨[.ref a], []⟩) (fun r s' => r = .ok (.ret (.bool true)) ∧ OldK s.heap s'.heap ∧ s'.os = s.os ∧ AllBare s'.gens) s := by
  have free : ∀ b, (b = a → False) → H b = none := by
    intro b hb
    cases q : H b with
    | none => rfl
    | some u => exact (hb (hA b (by rw [q]; simp)).1).elim
  have mapped : ∀ {b : Addr} {m : Str → Option Value}, s.heap.Ns b m → (hidT s.heap H).Ns b m := by
    rintro b m ⟨o, es, ep, e, d, r⟩
    refine ⟨o, es, ep, hidT_get e (free b ?_), d, r⟩
    rintro rfl
    rw [ha] at e
    cases e
    cases (show Data.seq vs.toArray _ = Data.dict es ep from d)
  have kin : K.In (hidT s.heap H) := by
    intro b o e
    refine hidT_get (KX b o e) ?_
    cases q : H b with
    | none => rfl
    | some u =>
      obtain ⟨e1, e2⟩ := hA b (by rw [q]; simp)
      rw [e1, e2] at e
      cases e
  obtain ⟨mc, l1, l2⟩ := lim
  have e0 : Env0 P w K mg (hidT s.heap H) callerA [] s H :=
    ⟨rfl, ⟨kin, mapped hns, ⟨mb, mapped hb, hbb⟩, ⟨mc, mapped l1, l2⟩⟩, fun b o e => of_hidT e, Nat.le_of_eq (hidT_size _ _), trivial, fun b hb => (List.not_mem_nil hb).elim, hok, .of_eq hg⟩
  have run := (F _ kin (mapped hns)).go callerA [] s H ⟨[.ref a], []⟩ [.ref a] [.ref a] _ _ rfl hr e0 (hbind s (.ref a)) (.cons rfl .nil) hsp
  refine codeAny_mono run ?_
  intro r s' h
  rcases r with e | fl
  · exact (show False from h).elim
  · cases fl
    case ret u =>
      obtain ⟨v, H', os, bare, un, hok', r', q⟩ := h
      obtain rfl : v = .bl true := q
      obtain rfl : u = Value.bool true := r'
      refine ⟨rfl, OldK.of_keep ?_, os, bare⟩
      intro b o e
      rcases hO b with q | ⟨ob, xs, q⟩
      · exact un.keep b o e q (fun z => (List.not_mem_nil z).elim) (fun z => (List.not_mem_nil z).elim)
      · have e1 := (hok b _ q).1
        have e2 := (hok' b _ (un.frzs b ob _ q)).1
        rw [e] at e1
        cases e1
        exact e2
    all_goals exact (show False from h).elim
theorem lawG {P : Program} {w : World} {K : PySem.W.Frag} {mg mb : Str → Option Value} {k : Nat} {fa a : Addr} {fd : FuncData} {x : Str} {sp : Sp} {s : Shared} {vs : List Value} {ns : List Int}
    (KX : K.In s.heap) (hns : s.heap.Ns mainGlobals mg) (hb : s.heap.Ns builtinsNs mb) (hbb : ∀ x : Str, x ≠ "__name__" → mb x = bootBuiltins x) (lim : s.heap.NoLimit) (hg : s.gens = #[])
    (ha : s.heap.get? a = some { cls := .type "list", data := .seq vs.toArray }) (hi : IntsAre vs ns) (hl : ns.length ≤ sizeLine) (F : ∀ base : Heap, K.In base → base.Ns mainGlobals mg → Fn P w K mg base CX0 k fa fd [x] sp)
    (hbind : ∀ (s : Shared) (u : Value), BindsTo s fd ⟨[u], []⟩ [(x, u)]) (hr : Room k callerA) (hsp : ∀ H : Hp, Only H → SqL K H a (ns.map V.int) → sp [.ref a] H (fun v _ => v = .bl true) fun _ _ _ => False) :
    codeAny (model P w) callerA (.call (.ref fa) ⟨[.ref a], []⟩) (fun r s' => r = .ok (.ret (.bool true)) ∧ OldK s.heap s'.heap ∧ s'.os = s.os ∧ AllBare s'.gens) s := by
  have rv : Vals (ns.map V.int) vs := vals_ints hi
  have many := hi.length
  cases hk : K.lookup a with
  | some o =>
    have e := KX a o hk
    rw [ha] at e
    cases e
    have hS : SqL K (fun _ => none) a (ns.map V.int) := .inr ⟨_, vs.toArray, _, hk, rfl, rfl, rfl, by rw [List.size_toArray, many]; exact hl, by simpa using rv⟩
    exact lawG0 KX hns hb hbb lim hg ha F hbind hr (fun _ => none) (fun _ => .inl rfl) (fun b u z => nomatch (show (none : Option HO) = some u from z)) (fun b z => (z rfl).elim) (hsp _ (fun _ => .inl rfl) hS)
  | none =>
    let H : Hp := upd (fun _ => none) a (.frz { cls := .type "list", data := .seq vs.toArray } (.lst (ns.map V.int)))
    have hH : H a = some (.frz { cls := .type "list", data := .seq vs.toArray } (.lst (ns.map V.int))) := upd_same
    have hN : ∀ b, b ≠ a → H b = none := fun b hb => upd_ne hb
    have hO : Only H := by
      intro b
      by_cases e : b = a
      · subst e
        exact .inr ⟨_, _, hH⟩
      · exact .inl (hN b e)
    refine lawG0 KX hns hb hbb lim hg ha F hbind hr H hO ?_ ?_ (hsp H hO (.inl (.inr ⟨_, hH⟩)))
    · intro b u z
      by_cases e : b = a
      · subst e
        rw [hH] at z
        cases z
        exact ⟨ha, by rw [List.length_map]; exact hl, vs, _, rv, ha⟩
      · rw [hN b e] at z
        cases z
    · intro b z
      refine ⟨?_, hk⟩
      by_cases e : b = a
      · exact e
      · exact (z (hN b e)).elim
/-- the goal that the head leaves, from the law's promise -/
theorem walkG {l : PySem.W.OpenLaw} {k : Nat} {q : Program} {loose : List Str} {XP : (Str → Option Value) → Heap → Prop} {YP : World → Heap → Prop} {d : DefRec} {K : Params → PySem.W.Frag} {sp : World → Sp} {x : Str}
    (hn : l.most = some 63) (hdf : d.params.defaults = []) (hr : Room k callerA) (hY : ∀ (w : World) (h : Heap), YP w h → (K w.params).In h)
    (F : ∀ (w : World) (mg : Str → Option Value) (fa : Addr) (h : Heap), (K w.params).In h → h.Ns mainGlobals mg → mg d.name = some (.ref fa) →
      ∃ fd : FuncData, (∀ (s : Shared) (u : Value), BindsTo s fd ⟨[u], []⟩ [(x, u)]) ∧ ∀ base : Heap, (K w.params).In base → base.Ns mainGlobals mg → Fn l.prog w (K w.params) mg base CX0 k fa fd [x] (sp w))
    (hsp : ∀ (w : World) (H : Hp) (a : Addr) (ns : List Int), ns.length ≤ 63 → Only H → SqL (K w.params) H a (ns.map V.int) → sp w [.ref a] H (fun v _ => v = .bl true) fun _ _ _ => False) :
    PySem.W.WalkO q loose XP YP l.row.toRowW d [] (fun f vs => PySem.call f vs) := by
  refine Att.attach_call hn hdf ?_
  intro w s₀ s₁ mg mb fa o pm cd doc a vs ns G Y ho hd hcd hmg hobj hints hlen hg
  have KX := hY w _ Y
  obtain ⟨fd, hb, hF⟩ := F w mg fa _ KX G.T.g hmg
  exact lawG KX G.T.g G.T.b G.T.builtins G.T.nolimit hg hobj hints (Nat.le_trans hlen (by decide)) hF hb hr (fun H hO hS => hsp w H a ns hlen hO hS)
/-! ### repr of data at any depth -/
section
variable {X : Cx}
def rRepr (K : PySem.W.Frag) : List V → Hp → VK → Prop := fun xs H Q => ∃ v d, xs = [v] ∧ Dp K H v d ∧ d.showable = true ∧ d.hasDict = false ∧ d.depth ≤ 60 ∧ d.shown.length ≤ sizeLine ∧ Q (.str d.shown) H
theorem cr_repr (g : X.A.guards = some []) (hu : X.A.units + 64 < cLine) : CallR X (.builtin "repr") (rRepr X.K) := by
  intro pins s σ H xs us Q I r h
  obtain ⟨v, d, rfl, hd, hs, hnd, hdep, hz, q⟩ := h
  obtain ⟨u, rfl, rv⟩ := vals1 r
  cases hd with
  | non => cases rv; exact PySem.P.repr_of_none ⟨.str _, H, I.tok _, ⟨_, rfl⟩, q⟩
  | bl b =>
    cases rv
    refine PySem.P.repr_of_bool ⟨.str _, H, I.tok _, ⟨_, rfl⟩, ?_⟩
    cases b <;> exact q
  | int i =>
    obtain ⟨t, rfl⟩ := rv
    exact PySem.P.repr_of_int (of_decide_eq_true hs) ⟨.str _, H, I.tok _, ⟨_, rfl⟩, q⟩
  | str x =>
    obtain ⟨t, rfl⟩ := rv
    exact PySem.P.repr_of_str ⟨.str _, H, I.tok _, ⟨_, rfl⟩, q⟩ hz
  | lst h1 h2 =>
    obtain ⟨as, rd⟩ := Dp.reads I _ _ _ (Dp.lst h1 h2) rv
    cases rv
    exact repr_of_reads' rd hs (fun z => by rw [hnd] at z; cases z) g (by omega) (fun b o e => e) (fun h' u tk hk => ⟨.str _, H, I.kept hk, ⟨_, rfl⟩, q⟩) hz
  | tup h1 h2 =>
    obtain ⟨as, rd⟩ := Dp.reads I _ _ _ (Dp.tup h1 h2) rv
    cases rv
    exact repr_of_reads' rd hs (fun z => by rw [hnd] at z; cases z) g (by omega) (fun b o e => e) (fun h' u tk hk => ⟨.str _, H, I.kept hk, ⟨_, rfl⟩, q⟩) hz
end
end Lf
end
section
set_option Elab.async false
set_option linter.all false
set_option maxRecDepth 100000
set_option maxHeartbeats 4000000
namespace Lf
open PySem PySem.Spec PyProof.Rows L2
open Evl
theorem u65 {k : Nat} {A : Around} (hr : Room k A) : A.units + 65 < cLine := by have := hr.un; omega
/-! ### data, kept -/
mutual
theorem dp_ex {K : PySem.W.Frag} {H H' : Hp} (e : Ex H H') : ∀ (d : PyData) (v : V), Dp K H v d → Dp K H' v d
  | .none, _, h => by cases h; exact .non
  | .bool b, _, h => by cases h; exact .bl b
  | .int i, _, h => by cases h; exact .int i
  | .str x, _, h => by cases h; exact .str x
  | .list ds, _, h => by
    cases h with
    | lst h1 h2 => exact .lst (ex_l e h1) (dps_ex e ds _ h2)
  | .tuple ds, _, h => by
    cases h with
    | tup h1 h2 => exact .tup (ex_t e h1) (dps_ex e ds _ h2)
  | .dict _, _, h => by cases h
theorem dps_ex {K : PySem.W.Frag} {H H' : Hp} (e : Ex H H') : ∀ (ds : List PyData) (vs : List V), DpAll K H vs ds → DpAll K H' vs ds
  | [], _, h => by cases h; exact .nil
  | d :: ds, _, h => by
    cases h with
    | cons h1 h2 => exact .cons (dp_ex e d _ h1) (dps_ex e ds _ h2)
end
theorem Dp.ex {K : PySem.W.Frag} {H H' : Hp} {v : V} {d : PyData} (h : Dp K H v d) (e : Ex H H') : Dp K H' v d := dp_ex e d v h
theorem Dps.ex {K : PySem.W.Frag} {H H' : Hp} {vs : List V} {ds : List PyData} (h : DpAll K H vs ds) (e : Ex H H') : DpAll K H' vs ds := dps_ex e ds vs h
theorem dp_list {K : PySem.W.Frag} {H : Hp} {v : V} {ds : List PyData} (h : Dp K H v (.list ds)) : ∃ a xs, v = .ref a ∧ SqL K H a xs ∧ DpAll K H xs ds := by
  cases h with
  | lst h1 h2 => exact ⟨_, _, rfl, h1, h2⟩
theorem dp_tup {K : PySem.W.Frag} {H : Hp} {v : V} {ds : List PyData} (h : Dp K H v (.tuple ds)) : ∃ a xs, v = .ref a ∧ SqT K H a xs ∧ DpAll K H xs ds := by
  cases h with
  | tup h1 h2 => exact ⟨_, _, rfl, h1, h2⟩
theorem dp_int {K : PySem.W.Frag} {H : Hp} {v : V} {i : Int} (h : Dp K H v (.int i)) : v = .int i := by cases h; rfl
theorem Dps.len {K : PySem.W.Frag} {H : Hp} : ∀ {vs : List V} {ds : List PyData}, DpAll K H vs ds → vs.length = ds.length
  | _, _, .nil => rfl
  | _, _, .cons _ t => congrArg (· + 1) (Dps.len t)
theorem Dps.get {K : PySem.W.Frag} {H : Hp} : ∀ {vs : List V} {ds : List PyData} {i : Nat} {v : V}, DpAll K H vs ds → vs[i]? = some v → ∃ d, ds[i]? = some d ∧ Dp K H v d
  | _, _, 0, _, .cons h _, e => by simp at e; subst e; exact ⟨_, rfl, h⟩
  | _, _, i + 1, _, .cons _ t, e => by
    obtain ⟨d, h1, h2⟩ := Dps.get (i := i) t (by simpa using e)
    exact ⟨d, by simpa using h1, h2⟩
theorem Dps.get2 {K : PySem.W.Frag} {H : Hp} : ∀ {vs : List V} {ds : List PyData} {i : Nat} {d : PyData}, DpAll K H vs ds → ds[i]? = some d → ∃ v, vs[i]? = some v ∧ Dp K H v d
  | _, _, 0, _, .cons h _, e => by simp at e; subst e; exact ⟨_, rfl, h⟩
  | _, _, i + 1, _, .cons _ t, e => by
    obtain ⟨d, h1, h2⟩ := Dps.get2 (i := i) t (by simpa using e)
    exact ⟨d, by simpa using h1, h2⟩
theorem Dps.app {K : PySem.W.Frag} {H : Hp} : ∀ {vs ws : List V} {ds es : List PyData}, DpAll K H vs ds → DpAll K H ws es → DpAll K H (vs ++ ws) (ds ++ es)
  | _, _, _, _, .nil, h => h
  | _, _, _, _, .cons h t, h2 => .cons h (Dps.app t h2)
theorem Dps.ints {K : PySem.W.Frag} {H : Hp} : ∀ {ns : List Int}, DpAll K H (ns.map V.int) (ns.map PyData.int)
  | [] => .nil
  | n :: _ => .cons (.int n) Dps.ints
theorem Dps.ints_inv {K : PySem.W.Frag} {H : Hp} : ∀ {ns : List Int} {vs : List V}, DpAll K H vs (ns.map PyData.int) → vs = ns.map V.int
  | [], _, h => by cases h; rfl
  | n :: ns, _, h => by
    cases h with
    | cons h1 h2 =>
      have e1 := dp_int h1
      have e2 := Dps.ints_inv h2
      rw [e1, e2, List.map_cons]
theorem Dps.take {K : PySem.W.Frag} {H : Hp} : ∀ {vs : List V} {ds : List PyData} (n : Nat), DpAll K H vs ds → DpAll K H (vs.take n) (ds.take n)
  | _, _, 0, _ => .nil
  | _, _, _ + 1, .nil => .nil
  | _, _, n + 1, .cons h t => .cons h (Dps.take n t)
theorem Dps.drop {K : PySem.W.Frag} {H : Hp} : ∀ {vs : List V} {ds : List PyData} (n : Nat), DpAll K H vs ds → DpAll K H (vs.drop n) (ds.drop n)
  | _, _, 0, h => h
  | _, _, _ + 1, .nil => .nil
  | _, _, n + 1, .cons _ t => Dps.drop n t
theorem ty_of_l {K : PySem.W.Frag} {H : Hp} {a : Addr} {xs : List V} (h : SqL K H a xs) : TyX K H (.ref a) (.type "list") := by
  rcases h with (h | ⟨o, h⟩) | ⟨o, its, n, h1, h2, _⟩
  · exact .base (.lst h)
  · exact .base (.frz h)
  · exact .kList h1 h2
theorem ty_of_t {K : PySem.W.Frag} {H : Hp} {a : Addr} {xs : List V} (h : SqT K H a xs) : TyX K H (.ref a) (.type "tuple") := by
  rcases h with (h | ⟨o, h⟩) | ⟨o, its, n, h1, h2, _⟩
  · exact .base (.tup h)
  · exact .fTuple h
  · exact .kTuple h1 h2
/-! ### what evaluates to what, for our own calls -/
section
variable {K : PySem.W.Frag} {σ : L2.St} {H H' : Hp} {ta tb te tx : TE} {t u : TT} {x y z v : V} {r : R2}
def SV (sp : Sp) (vs : List V) (H : Hp) (z : V) : Prop := ∀ H1, Ex H H1 → ∀ Q : VK, RetV z H1 Q → ∀ E : XK, sp vs H1 Q E
def SL (sp : Sp) (vs : List V) (H : Hp) (xs : List V) : Prop := ∀ H1, Ex H H1 → ∀ Q : VK, RetL xs H1 Q → ∀ E : XK, sp vs H1 Q E
theorem ev_cl {sp : Sp} {vs : List V} {E : XK} {ta : TA} (h : EvA ta σ H vs) (hs : SV sp vs H z) : Ev (tCl sp E ta) σ H z := fun H1 e Q q =>
  h H1 e _ fun H2 e2 => hs H2 (e.trans e2) Q (fun H3 e3 => q H3 (e2.trans e3)) E
theorem el_cl {sp : Sp} {vs xs : List V} {E : XK} {ta : TA} (h : EvA ta σ H vs) (hs : SL sp vs H xs) : EvL (tCl sp E ta) σ H xs := fun H1 e Q q =>
  h H1 e _ fun H2 e2 => hs H2 (e.trans e2) Q (fun p H3 hp e3 h3 => q p H3 (fresh_back e2 hp) (e2.trans e3) h3) E
theorem ev_mt {C a dx : Addr} {m : Str} {fs : List (Str × V)} {sp : Sp} {vs : List V} {E : XK} {tr : TA} (ho : Ev ta σ H (.ref a)) (hi : H a = some (.ins C dx fs)) (hm : fs.lookup m = none) (h : EvA tr σ H vs) (hs : SV sp (.ref a :: vs) H z) : Ev (tMt C m sp E ta tr) σ H z := fun H1 e Q q =>
  ho H1 e _ fun H2 e2 => ⟨a, dx, fs, rfl, e2 _ _ (e _ _ hi), hm, h H2 (e.trans e2) _ fun H3 e3 => hs H3 ((e.trans e2).trans e3) Q (fun H4 e4 => q H4 ((e2.trans e3).trans e4)) E⟩
theorem el_mt {C a dx : Addr} {m : Str} {fs : List (Str × V)} {sp : Sp} {vs xs : List V} {E : XK} {tr : TA} (ho : Ev ta σ H (.ref a)) (hi : H a = some (.ins C dx fs)) (hm : fs.lookup m = none) (h : EvA tr σ H vs) (hs : SL sp (.ref a :: vs) H xs) : EvL (tMt C m sp E ta tr) σ H xs := fun H1 e Q q =>
  ho H1 e _ fun H2 e2 => ⟨a, dx, fs, rfl, e2 _ _ (e _ _ hi), hm, h H2 (e.trans e2) _ fun H3 e3 => hs H3 ((e.trans e2).trans e3) Q (fun p H4 hp e4 h4 => q p H4 (fresh_back e2 (fresh_back e3 hp)) ((e2.trans e3).trans e4) h4) E⟩
theorem ev_fld {C a dx : Addr} {f : Str} {fs : List (Str × V)} (ho : Ev ta σ H (.ref a)) (hi : H a = some (.ins C dx fs)) (cl : Cls K C) (na : NoAttr K C f) (hl : fs.lookup f = some v) : Ev (tFld K ta f) σ H v := fun H1 e Q q =>
  ho H1 e _ fun H2 e2 => ⟨a, C, dx, fs, v, rfl, e2 _ _ (e _ _ hi), cl, na, hl, q H2 e2⟩
theorem ev_any {bs : List Bool} (h : EvL te σ H (bs.map V.bl)) : Ev (tCB (rAny K) (tCons te tNil)) σ H (.bl (bs.any id)) := fun H1 e Q q =>
  h H1 e _ fun p H2 _ e2 hp => ⟨p, bs, rfl, sq_of hp, q H2 e2⟩
theorem ev_all {bs : List Bool} (h : EvL te σ H (bs.map V.bl)) : Ev (tCB (rAll K) (tCons te tNil)) σ H (.bl (bs.all id)) := fun H1 e Q q =>
  h H1 e _ fun p H2 _ e2 hp => ⟨p, bs, rfl, sq_of hp, q H2 e2⟩
theorem ev_chain {r r' : R2} {tc : TE} {a b : Bool} (ha : Ev ta σ H x) (hb : Ev tb σ H y) (h1 : RV r x y H (.bl a)) (hc : a = true → Ev tc σ H z) (h2 : a = true → RV r' y z H (.bl b)) : Ev (tChain r r' ta tb tc) σ H (.bl (a && b)) := fun H1 e Q q =>
  ha H1 e _ fun H2 e2 => hb H2 (e.trans e2) _ fun H3 e3 => h1 H3 ((e.trans e2).trans e3) _ fun H4 e4 => ⟨a, rfl, by
    cases a with
    | true =>
      refine iteT ?_
      refine hc rfl H4 (((e.trans e2).trans e3).trans e4) _ fun H5 e5 => ?_
      exact h2 rfl H5 ((((e.trans e2).trans e3).trans e4).trans e5) Q fun H6 e6 => q H6 ((((e2.trans e3).trans e4).trans e5).trans e6)
    | false => exact iteF (q H4 ((e2.trans e3).trans e4))⟩
theorem ev_lenL {p : Addr} {xs : List V} (ha : Ev ta σ H (.ref p)) (h : SqL K H p xs) : Ev (tCB (fun xs H Q => ∃ p ys, xs = [V.ref p] ∧ (SqL K H p ys ∨ SqT K H p ys) ∧ Q (.int ys.length) H) (tCons ta tNil)) σ H (.int (xs.length : Int)) := fun H1 e Q q =>
  ha H1 e _ fun H2 e2 => ⟨p, xs, rfl, Or.inl (ex_l (e.trans e2) h), q H2 e2⟩
theorem ev_lenT {p : Addr} {xs : List V} (ha : Ev ta σ H (.ref p)) (h : SqT K H p xs) : Ev (tCB (fun xs H Q => ∃ p ys, xs = [V.ref p] ∧ (SqL K H p ys ∨ SqT K H p ys) ∧ Q (.int ys.length) H) (tCons ta tNil)) σ H (.int (xs.length : Int)) := fun H1 e Q q =>
  ha H1 e _ fun H2 e2 => ⟨p, xs, rfl, Or.inr (ex_t (e.trans e2) h), q H2 e2⟩
theorem ev_lenF {xs : List V} (ha : EvL ta σ H xs) : Ev (tCB (fun xs H Q => ∃ p ys, xs = [V.ref p] ∧ (SqL K H p ys ∨ SqT K H p ys) ∧ Q (.int ys.length) H) (tCons ta tNil)) σ H (.int (xs.length : Int)) := fun H1 e Q q =>
  ha H1 e _ fun p H2 _ e2 hp => ⟨p, xs, rfl, Or.inl (sq_of hp), q H2 e2⟩
theorem el_listL {p : Addr} {xs : List V} (ha : Ev ta σ H (.ref p)) (h : SqL K H p xs) : EvL (tCB (fun xs H Q => ∃ p ys, xs = [V.ref p] ∧ (SqL K H p ys ∨ SqT K H p ys) ∧ ∀ l, H l = none → Q (.ref l) (upd H l (.lst ys))) (tCons ta tNil)) σ H xs := fun H1 e Q q =>
  ha H1 e _ fun H2 e2 => ⟨p, xs, rfl, Or.inl (ex_l (e.trans e2) h), fun l hl => q l _ (fresh_back e2 hl) (e2.trans (Ex.new hl)) upd_same⟩
theorem given_all (n : Nat) (v : Nat → V) : given n (fun _ => true) v = (List.range n).map v := by
  unfold given
  rw [List.filter_eq_self.mpr (fun _ _ => rfl)]
theorem yes_ok {σ : L2.St} {H : Hp} : EvT tYes σ H true := fun H1 _ _ q => q H1 (Ex.refl H1)
/-- [e for x in xs], all, by places -/
theorem el_map {a : Addr} {xs : List V} {tl : TE} {j : Nat} {vs : List Nat} (v : Nat → V) (h : Ev tl σ H (.ref a)) (hx : SqL K H a xs) (hz : xs.length ≤ 40000) (hw : ∀ x, wipe ((wipe σ vs).set j (some x)) vs = wipe σ vs)
    (he : ∀ (i : Nat) (x : V) H1, Ex H H1 → xs[i]? = some x → Ev te ((wipe σ vs).set j (some x)) H1 (v i)) : EvL (tLc (iList K tl) (gName j) tYes te vs) σ H ((List.range xs.length).map v) := by
  rw [← given_all]
  exact el_lcL (fun _ => true) v h hx hz hw (fun _ _ _ _ _ => yes_ok) (fun i x H1 e hi _ => he i x H1 e hi)
theorem el_mapT {a : Addr} {xs : List V} {tl : TE} {j : Nat} {vs : List Nat} (v : Nat → V) (h : Ev tl σ H (.ref a)) (hx : SqT K H a xs) (hz : xs.length ≤ 40000) (hw : ∀ x, wipe ((wipe σ vs).set j (some x)) vs = wipe σ vs)
    (he : ∀ (i : Nat) (x : V) H1, Ex H H1 → xs[i]? = some x → Ev te ((wipe σ vs).set j (some x)) H1 (v i)) : EvL (tLc (iTup K tl) (gName j) tYes te vs) σ H ((List.range xs.length).map v) := by
  rw [← given_all]
  exact fun H0 e Q q => h H0 e _ fun H1 e1 => ⟨a, rfl, ⟨xs, ex_t (e.trans e1) hx⟩, fun Dl hD =>
    lc_tup (xs := xs) (Cw H1 (fun _ => true) v Dl) ⟨hD, Ex.new hD, upd_same⟩ (fun i H' _ p => ex_t ((e.trans e1).trans p.2.1) hx) (fun i x H' hi p => ⟨hw x, cw_turn p (by have := (List.getElem?_eq_some_iff.mp hi).1; omega) yes_ok (fun _ => he i x H1 (e.trans e1) hi)⟩)
      (fun H' p => q Dl H' (fresh_back e1 p.1) (e1.trans p.2.1) p.2.2)⟩
/-- [e for x, y in zip(a, b)], all -/
theorem el_mapZ {ta : TA} {a : Addr} {xs ys : List V} {j1 j2 n : Nat} {vs : List Nat} (v : Nat → V) (hA : ∀ H1, Ex H H1 → ∀ Q : List V → Hp → Prop, (∀ b H2, Ex H1 H2 → SqL K H2 b ys → Q [.ref a, .ref b] H2) → ta σ H1 Q) (hx : SqL K H a xs)
    (hn : n ≤ xs.length ∧ n ≤ ys.length ∧ (xs.length ≤ n ∨ ys.length ≤ n)) (hz : n ≤ 40000) (hw : ∀ x y, wipe (((wipe σ vs).set j1 (some x)).set j2 (some y)) vs = wipe σ vs)
    (he : ∀ (i : Nat) (x y : V) H1, Ex H H1 → xs[i]? = some x → ys[i]? = some y → Ev te (((wipe σ vs).set j1 (some x)).set j2 (some y)) H1 (v i)) : EvL (tLc (iZip K ta) (gTup K 2 (gCons (gName j1) (gCons (gName j2) gNil))) tYes te vs) σ H ((List.range n).map v) := by
  rw [← given_all]
  intro H0 e Q q
  refine hA H0 e _ fun b H1 e1 hy => ⟨a, b, xs, ys, rfl, ex_l (e.trans e1) hx, hy, fun D hD => ?_⟩
  refine ⟨fun i m H' => m = n - i ∧ i ≤ n ∧ Cw H1 (fun _ => true) v D i H', ⟨n, by simp, Nat.zero_le _, hD, Ex.new hD, upd_same⟩, ?_⟩
  rintro i m H' ⟨rfl, hi, p⟩
  have hxs : SqL K H' a xs := ex_l ((e.trans e1).trans p.2.1) hx
  have hys : SqL K H' b ys := ex_l p.2.1 hy
  by_cases hlt : i < n
  · have gx : xs[i]? = some xs[i] := List.getElem?_eq_getElem (by omega)
    have gy : ys[i]? = some ys[i] := List.getElem?_eq_getElem (by omega)
    refine .inr ⟨⟨xs, ys, _, _, hxs, hys, gx, gy⟩, Cw H1 (fun _ => true) v D (i + 1), fun H2 p2 => ⟨n - (i + 1), by omega, rfl, hlt, p2⟩, ?_⟩
    rintro z H2 ⟨T, x, y, rfl, hT, rfl, fx, fy⟩
    have ex := Option.some.inj ((fx _ hxs).symm.trans gx)
    have ey := Option.some.inj ((fy _ hys).symm.trans gy)
    subst ex ey
    have pT : Cw H1 (fun _ => true) v D i (upd H' T (.tup [xs[i], ys[i]])) := ⟨p.1, p.2.1.trans (Ex.new hT), (Ex.new hT) _ _ p.2.2⟩
    refine ⟨T, _, rfl, .inl (.inl upd_same), rfl, _, _, rfl, _, _, rfl, rfl, hw _ _, ?_⟩
    exact cw_turn pT (by omega) yes_ok (fun _ => he i _ _ H1 (e.trans e1) gx gy)
  · have hin : i = n := by omega
    subst hin
    refine .inl ⟨⟨xs, ys, hxs, hys, by omega⟩, ?_⟩
    exact q D H' (fresh_back e1 p.1) (e1.trans p.2.1) p.2.2
end
end Lf
end
section
set_option Elab.async false
set_option linter.all false
set_option maxRecDepth 100000
set_option maxHeartbeats 4000000
/-! the rules with the fragment named (a block's rule must not speak of the block) -/
namespace Lf
open PySem PySem.Spec PyProof.Rows L2
section
variable {X : Cx} {K : PySem.W.Frag}
theorem kop {r : PySem.W.Frag → R2} {f : Value → Value → Sem Value} (h : OpR X f (r X.K)) (e : X.K = K) : OpR X f (r K) := by
  subst e
  exact h
theorem kix {r : PySem.W.Frag → R2} (h : IxR X (r X.K)) (e : X.K = K) : IxR X (r K) := by
  subst e
  exact h
theorem kcr {r : PySem.W.Frag → List V → Hp → VK → Prop} {f : Value} (h : CallR X f (r X.K)) (e : X.K = K) : CallR X f (r K) := by
  subst e
  exact h
theorem ksl {r : PySem.W.Frag → V → Option Int → Option Int → Hp → VK → Prop} (h : SlR X (r X.K)) (e : X.K = K) : SlR X (r K) := by
  subst e
  exact h
theorem kget {r : PySem.W.Frag → V → V → Hp → VK → Prop} (h : PGet X (r X.K)) (e : X.K = K) : PGet X (r K) := by
  subst e
  exact h
def rLen (K : PySem.W.Frag) : List V → Hp → VK → Prop := fun xs H Q => ∃ p ys, xs = [V.ref p] ∧ (SqL K H p ys ∨ SqT K H p ys) ∧ Q (.int ys.length) H
def rLst (K : PySem.W.Frag) : List V → Hp → VK → Prop := fun xs H Q => ∃ p ys, xs = [V.ref p] ∧ (SqL K H p ys ∨ SqT K H p ys) ∧ ∀ l, H l = none → Q (.ref l) (upd H l (.lst ys))
def rTpl (K : PySem.W.Frag) : List V → Hp → VK → Prop := fun xs H Q => ∃ p ys, xs = [V.ref p] ∧ ((SqL K H p ys ∧ ∀ l, H l = none → Q (.ref l) (upd H l (.tup ys))) ∨ (SqT K H p ys ∧ Q (.ref p) H))
theorem k_len (e : X.K = K) : CallR X (.builtin "len") (rLen K) := by
  subst e
  exact call_len_seq
theorem k_lst (e : X.K = K) : CallR X (.type "list") (rLst K) := by
  subst e
  exact call_list_of
theorem k_tpl (e : X.K = K) : CallR X (.type "tuple") (rTpl K) := by
  subst e
  exact call_tuple_of
variable {e o : Expr} {es : List Expr} {pos apos cpos : Pos} {f name : Str} {ta to te : TE} {t : TA} {T id : String} {tg : Expr}
theorem k_fld (k : X.K = K) (he : PE X e ta) (hb : attributeBase e f X.env (eval e X.env) = eval e X.env) : PE X (.Attribute e f pos) (tFld K ta f) := by
  subst k
  exact pe_fld he hb
theorem k_bm0 {r : V → List V → Hp → VK → Prop} (k : X.K = K) (pa : PlainAttrs T) (slot : Slot T name id) (hty : typeOf (.builtin id) = pure (.type "method_descriptor")) (hm : MtR X id r) (ho : PE X o to)
    (hbase : attributeBase o name X.env (eval o X.env) = eval o X.env := by rfl) (hline : (apos.endLine == cpos.line) = true := by rfl) : PE X (.Call (.Attribute o name apos) [] [] cpos) (tBM0 K T r to) := by
  subst k
  exact pe_bm0 pa slot hty hm ho hbase hline
theorem k_bm {r : V → List V → Hp → VK → Prop} (k : X.K = K) (pa : PlainAttrs T) (slot : Slot T name id) (hty : typeOf (.builtin id) = pure (.type "method_descriptor")) (hm : MtR X id r) (ho : PE X o to) (ha : PA X (e :: es) t)
    (hbase : attributeBase o name X.env (eval o X.env) = eval o X.env := by rfl)
    (hfew : ((backTo cpos (starEach (e :: es) X.env)).all (fun x => !x.1) && (backToKw cpos (keywordEach [] X.env)).all (fun x => x.1.isSome)
      && decide ((e :: es).length + ([] : List Keyword).length + (if ([] : List Keyword).isEmpty then 0 else 1) < 30)) = true := by rfl)
    (hline : (apos.endLine == cpos.line) = true := by rfl) (hs : starEach (e :: es) X.env = (false, eval e X.env) :: starEach es X.env := by rfl) (hplain : (backTo cpos (starEach es X.env)).any (·.1) = false := by rfl) :
    PE X (.Call (.Attribute o name apos) (e :: es) [] cpos) (tBM K T r to t) := by
  subst k
  exact pe_bm pa slot hty hm ho ha hbase hfew hline hs hplain
theorem k_list {l : Expr} {tl : TE} (k : X.K = K) (hl : PE X l tl) : PI X tg l (iList K tl) := by
  subst k
  exact pi_list hl
theorem k_tup {l : Expr} {tl : TE} (k : X.K = K) (hl : PE X l tl) : PI X tg l (iTup K tl) := by
  subst k
  exact pi_tup hl
theorem k_gtup {es : List Expr} {kk : Nat} {t : TGs} {n : Nat} (k : X.K = K) (hc : X.calm = true) (h : PGs X es t)
    (hn : (assignEach es X.env).length = n := by rfl) (hst : (assignEach es X.env).findIdx? (·.1) = none := by rfl) : PG X (.Tuple es kk pos) (gTup K n t) := by
  subst k
  exact pg_tup hc h hn hst
theorem k_revL {p1 p2 p3 : Pos} {kk : Nat} (k : X.K = K) (he : PE X e te) : PE X (.Subscript e (.Slice none none (some (.UnaryOp .USub (.Constant (.int 1) kk p1) p2)) p3) pos) (tRevL K te) := by
  subst k
  exact pe_revL he
def tTr (K : PySem.W.Frag) (ta : TE) : TT := fun σ H Q => ta σ H fun x H' => ∃ k, TruV K x H' k ∧ Q k H'
theorem k_truth (k : X.K = K) (h : PE X e ta) (he : ∀ whole, isTrue e X.env whole = (do let v ← whole; standAt e.pos; holding [v] (truthy v))) : PT X e (tTr K ta) := by
  subst k
  exact pt_truth h he
theorem k_enum {p tpos : Pos} {elts : List Expr} {kk : Nat} (k : X.K = K) (hg : Gl X "enumerate") (hm : X.mg "enumerate" = none) (ha : PA X [e] t) (hs : starEach [e] X.env = [(false, eval e X.env)] := by rfl) :
    PI X (.Tuple elts kk tpos) (.Call (.Name "enumerate" p) [e] [] pos) (iEnum K t) := by
  subst k
  exact pi_enum hg hm ha hs
theorem k_zip {p tpos : Pos} {elts : List Expr} {kk : Nat} {e2 : Expr} (k : X.K = K) (hg : Gl X "zip") (hm : X.mg "zip" = none) (ha : PA X [e, e2] t) (hs : starEach [e, e2] X.env = (false, eval e X.env) :: starEach [e2] X.env := by rfl)
    (hpl : (backTo pos (starEach [e2] X.env)).any (·.1) = false := by rfl) : PI X (.Tuple elts kk tpos) (.Call (.Name "zip" p) [e, e2] [] pos) (iZip K t) := by
  subst k
  exact pi_zip hg hm ha hs hpl
end
section
variable {K : PySem.W.Frag} {σ : L2.St} {H H' : Hp} {te : TE} {D : Ends} {tz : TS} {g : TG} {xs : List V} {v : V}
open Evl
theorem q_asgG (h : EvL te σ H xs) (k : ∀ p H1, H p = none → Ex H H1 → H1 p = some (.lst xs) → g (.ref p) σ H1 (tz D)) : tSeq (tAsg te g) tz D σ H := h H (Ex.refl H) _ k
theorem q_forE {a : Addr} {ys : List V} {ta : TA} {tu : TS} {j1 j2 : Nat} (h : EvA ta σ H [.ref a]) (hx : SqL K H a ys) (Pv : Nat → L2.St → Hp → Prop) (h0 : ∀ H1, Ex H H1 → Pv 0 σ H1) (hl : ∀ i σ' H', Pv i σ' H' → SqL K H' a ys)
    (st : ∀ i σ' H' T o, Pv i σ' H' → H' T = none → Pv i σ' (upd H' T o))
    (hs : ∀ (i : Nat) x σ' H', ys[i]? = some x → Pv i σ' H' → tu { D with nx := Pv (i + 1), ct := Pv (i + 1), bk := tz D } ((σ'.set j1 (some (.int (i : Int)))).set j2 (some x)) H') (hd : ∀ σ' H', Pv ys.length σ' H' → tz D σ' H') :
    tSeq (tFor (iEnum K ta) (gTup K 2 (gCons (gName j1) (gCons (gName j2) gNil))) tu) tz D σ H := by
  refine h H (Ex.refl H) _ fun H1 e => ⟨a, ys, rfl, ex_l e hx, ?_⟩
  refine ⟨fun i m σ H => m = ys.length - i ∧ i ≤ ys.length ∧ Pv i σ H, ⟨ys.length, by simp, Nat.zero_le _, h0 H1 e⟩, ?_⟩
  rintro i m σ' H' ⟨rfl, hi, p⟩
  have hq := hl i σ' H' p
  by_cases hlt : i < ys.length
  · have gy : ys[i]? = some ys[i] := List.getElem?_eq_getElem hlt
    refine .inr ⟨⟨ys, _, hq, gy⟩, Pv (i + 1), fun σ2 H2 p2 => ⟨ys.length - (i + 1), by omega, rfl, hlt, p2⟩, ?_⟩
    rintro z H2 ⟨T, x, rfl, hT, rfl, fx⟩
    have ex := Option.some.inj ((fx _ hq).symm.trans gy)
    subst ex
    exact ⟨T, _, rfl, .inl (.inl upd_same), rfl, _, _, rfl, _, _, rfl, rfl, hs i _ σ' _ gy (st _ _ _ _ _ p hT)⟩
  · have e1 : i = ys.length := by omega
    subst e1
    exact .inl ⟨⟨ys, hq, Nat.le_refl _⟩, hd _ _ p⟩
theorem q_asgV (h : Ev te σ H v) (k : ∀ H1, Ex H H1 → g v σ H1 (tz D)) : tSeq (tAsg te g) tz D σ H := h H (Ex.refl H) _ k
end
end Lf
end
section
set_option Elab.async false
set_option linter.all false
set_option maxRecDepth 100000
set_option maxHeartbeats 4000000
/-! Lw: the bag of draws, and what a draw leaves. -/
namespace Lf
open PySem PySem.Spec PyProof.Rows L2
open Evl
/-- the bag at b: what is left of a cell, the stirred number, how many cells were taken, the cells -/
def Bag (H : Hp) (b : Addr × Addr) : Prop := ∃ (x y z : Int) (ns : List Int), H b.1 = some (.lst [.int x, .int y, .int z, .ref b.2]) ∧ H b.2 = some (.lst (ns.map V.int)) ∧ 0 ≤ x ∧ (0 ≤ y ∧ y < 2147483647) ∧ 0 ≤ z ∧ ∀ n ∈ ns, 0 ≤ n
def spTake : Sp := fun vs H Q _ => ∃ (b : Addr × Addr) (many : Int), vs = [.ref b.1, .int many] ∧ Bag H b ∧ (0 < many ∧ many < 1073741824) ∧ ∀ v H', 0 ≤ v → v < many → Bag H' b → (∀ a, a ≠ b.1 → H' a = H a) → Q (.int v) H'
/-- all but the bag -/
def mask (b : Addr) (H : Hp) : Hp := fun a => if a = b then none else H a
theorem mask_at {b a : Addr} {H : Hp} (h : a ≠ b) : mask b H a = H a := if_neg h
theorem mask_self {b : Addr} {H : Hp} : mask b H b = none := if_pos rfl
theorem mask_le (b : Addr) (H : Hp) : Ex (mask b H) H := fun a o h => by
  by_cases e : a = b
  · subst e
    rw [mask_self] at h
    cases h
  · rw [mask_at e] at h
    exact h
theorem mask_ex {b : Addr} {H H' : Hp} (e : Ex H H') : Ex (mask b H) (mask b H') := fun a o h => by
  by_cases q : a = b
  · subst q
    rw [mask_self] at h
    cases h
  · rw [mask_at q] at h
    rw [mask_at q]
    exact e _ _ h
theorem mask_same {b : Addr} {H H' : Hp} (e : ∀ a, a ≠ b → H' a = H a) : Ex (mask b H) (mask b H') := fun a o h => by
  by_cases q : a = b
  · subst q
    rw [mask_self] at h
    cases h
  · rw [mask_at q] at h
    rw [mask_at q, e a q]
    exact h
theorem Bag.ex {b : Addr × Addr} {H H' : Hp} (h : Bag H b) (e : Ex H H') : Bag H' b := by
  obtain ⟨x, y, z, ns, h1, h2, h3⟩ := h
  exact ⟨x, y, z, ns, e _ _ h1, e _ _ h2, h3⟩
theorem Bag.ne {b : Addr × Addr} {p : Addr} {H : Hp} (h : Bag H b) (hp : H p = none) : p ≠ b.1 := by
  obtain ⟨x, y, z, ns, h1, _⟩ := h
  rintro rfl
  rw [h1] at hp
  cases hp
theorem Bag.ne2 {b : Addr × Addr} {p : Addr} {H : Hp} (h : Bag H b) (hp : H p = none) : p ≠ b.2 := by
  obtain ⟨x, y, z, ns, _, h1, _⟩ := h
  rintro rfl
  rw [h1] at hp
  cases hp
/-- what a stretch with draws leaves: the bag is one still, all else is kept -/
def Step (b : Addr × Addr) (H H' : Hp) : Prop := Bag H' b ∧ Ex (mask b.1 H) (mask b.1 H')
theorem Step.refl {b : Addr × Addr} {H : Hp} (h : Bag H b) : Step b H H := ⟨h, Ex.refl _⟩
theorem Step.trans {b : Addr × Addr} {H H1 H2 : Hp} (h : Step b H H1) (h' : Step b H1 H2) : Step b H H2 := ⟨h'.1, h.2.trans h'.2⟩
theorem Step.pure {b : Addr × Addr} {H H' : Hp} (h : Bag H b) (e : Ex H H') : Step b H H' := ⟨h.ex e, mask_ex e⟩
theorem Step.draw {b : Addr × Addr} {H H' : Hp} (h : Bag H' b) (e : ∀ a, a ≠ b.1 → H' a = H a) : Step b H H' := ⟨h, mask_same e⟩
theorem Step.at {b : Addr × Addr} {a : Addr} {H H' : Hp} {o : HO} (h : Step b H H') (hn : a ≠ b.1) (ha : H a = some o) : H' a = some o := by
  have := h.2 a o (by rw [mask_at hn]; exact ha)
  rw [mask_at hn] at this
  exact this
theorem Step.free {b : Addr × Addr} {p : Addr} {H H' : Hp} (h : Step b H H') (hp : H' p = none) : H p = none := by
  have hn := h.1.ne hp
  cases q : H p with
  | none => rfl
  | some o =>
    rw [h.at hn q] at hp
    cases hp
/-- a list of one's own is changed -/
theorem Step.put {b : Addr × Addr} {p : Addr} {H H' : Hp} {o : HO} (h : Step b H H') (hb : Bag H b) (hp : H p = none) : Step b H (upd H' p o) := by
  have hn := hb.ne hp
  have hn2 := hb.ne2 hp
  refine ⟨?_, fun a u ha => ?_⟩
  · obtain ⟨x, y, z, ns, h1, h2, h3⟩ := h.1
    refine ⟨x, y, z, ns, ?_, ?_, h3⟩
    · rw [upd_ne hn.symm]
      exact h1
    · rw [upd_ne hn2.symm]
      exact h2
  · have hap : a ≠ p := by
      rintro rfl
      rw [mask_at hn, hp] at ha
      cases ha
    by_cases q : a = b.1
    · subst q
      rw [mask_self] at ha
      cases ha
    · rw [mask_at q, upd_ne hap]
      have := h.2 a u ha
      rw [mask_at q] at this
      exact this
theorem s_retLst4 {te : TE} {σ : L2.St} {H : Hp} {xs : List V} {x y z : V} {D : Ends} (h : EvL te σ H xs) (k : ∀ c H1, H c = none → Ex H H1 → H1 c = some (.lst xs) → ∀ p, H1 p = none → D.rt (.ref p) (upd H1 p (.lst [x, y, z, .ref c]))) :
    tRet (tLst (tCons (tC x) (tCons (tC y) (tCons (tC z) (tCons te tNil))))) D σ H := h H (Ex.refl H) _ fun c H1 c0 e hc => ⟨(by show 4 ≤ sizeLine; decide), fun p hp => k c H1 c0 e hc p hp⟩
/-! ### tests with some answer -/
def TAny (R : Hp → Hp → Prop) (tt : TT) (σ : L2.St) (H : Hp) : Prop := ∀ Q : Bool → Hp → Prop, (∀ c H2, R H H2 → Q c H2) → tt σ H Q
section
variable {b : Addr × Addr} {σ : L2.St} {H : Hp} {t u : TT} {D : Ends} {ta tb : TS}
theorem tany_ev {c : Bool} (hb : Bag H b) (h : EvT t σ H c) : TAny (Step b) t σ H := fun Q q => h H (Ex.refl H) Q fun H2 e => q c H2 (.pure hb e)
theorem tany_or (h1 : TAny (Step b) t σ H) (h2 : ∀ H2, Step b H H2 → TAny (Step b) u σ H2) : TAny (Step b) (tOr t u) σ H := fun Q q => h1 _ fun c H2 s => by
  cases c with
  | true => exact iteT (q true H2 s)
  | false => exact iteF (h2 H2 s Q fun c H3 s3 => q c H3 (s.trans s3))
theorem tany_and (h1 : TAny (Step b) t σ H) (h2 : ∀ H2, Step b H H2 → TAny (Step b) u σ H2) : TAny (Step b) (tAnd t u) σ H := fun Q q => h1 _ fun c H2 s => by
  cases c with
  | true => exact iteT (h2 H2 s Q fun c H3 s3 => q c H3 (s.trans s3))
  | false => exact iteF (q false H2 s)
theorem s_any (h : TAny (Step b) t σ H) (k : ∀ H2, Step b H H2 → ta D σ H2 ∧ tb D σ H2) : tIfS t ta tb D σ H := h _ fun c H2 s => by
  cases c with
  | true => exact (k H2 s).1
  | false => exact (k H2 s).2
end
end Lf
end
section
set_option Elab.async false
set_option linter.all false
set_option maxRecDepth 100000
set_option maxHeartbeats 4000000
/-! Wm: the mathematics of webs, and their data. -/
namespace Wm
open PySem PySem.Spec PyProof.Rows L2
open Evl
abbrev PS := List (Nat × Nat)
def dP (p : Nat × Nat) : PyData := .tuple [.int p.1, .int p.2]
def dPs (ps : PS) : PyData := .list (ps.map dP)
def dN (ns : List Nat) : PyData := .list (ns.map fun n : Nat => .int (n : Int))
def dNs (rows : List (List Nat)) : PyData := .list (rows.map dN)
def vN (ns : List Nat) : List V := ns.map fun n : Nat => V.int (n : Int)
def lexP (p q : Nat × Nat) : Bool := HT.lexLt [(p.1 : Int), p.2] [(q.1 : Int), q.2]
def lt2 (p q : Nat × Nat) : Prop := p.1 < q.1 ∨ (p.1 = q.1 ∧ p.2 < q.2)
def risesB (ps : PS) : Bool := ((List.range (ps.length - 1)).map fun i => lexP (ps.getD i (0, 0)) (ps.getD (i + 1) (0, 0))).all id
/-- pairs of so many places, the lesser first, rising -/
structure Good (many : Nat) (ps : PS) : Prop where
  m2 : 2 ≤ many
  m10 : many ≤ 10
  lt : ∀ p ∈ ps, p.1 < p.2 ∧ p.2 < many
  pw : ps.Pairwise lt2
  few : ps.length ≤ 1000
theorem lexP_of {p q : Nat × Nat} (h : lt2 p q) : lexP p q = true := by
  unfold lexP
  show (if (p.1 : Int) = q.1 then (if (p.2 : Int) = q.2 then HT.lexLt [] [] else decide ((p.2 : Int) < q.2)) else decide ((p.1 : Int) < q.1)) = true
  rcases h with h | ⟨h1, h2⟩
  · rw [if_neg (by omega), decide_eq_true (by omega)]
  · rw [if_pos (by omega), if_neg (by omega), decide_eq_true (by omega)]
theorem Good.rise {many : Nat} {ps : PS} (g : Good many ps) : risesB ps = true := by
  unfold risesB
  rw [List.all_map, List.all_eq_true]
  intro i hi
  have hi := List.mem_range.mp hi
  have h1 : i < ps.length := by omega
  have h2 : i + 1 < ps.length := by omega
  show lexP (ps.getD i (0, 0)) (ps.getD (i + 1) (0, 0)) = true
  rw [List.getD_eq_getElem?_getD, List.getD_eq_getElem?_getD, List.getElem?_eq_getElem h1, List.getElem?_eq_getElem h2]
  exact lexP_of (List.pairwise_iff_getElem.mp g.pw i (i + 1) h1 h2 (Nat.lt_succ_self i))
def rowOf (ps : PS) (i : Nat) : List Nat := ps.filterMap fun p => if p.1 = i then some p.2 else if p.2 = i then some p.1 else none
def nearOf (many : Nat) (ps : PS) : List (List Nat) := (List.range many).map (rowOf ps)
def adj (ps : PS) (i j : Nat) : Bool := decide (j ∈ rowOf ps i)
def touch (ps : PS) (i j : Nat) : Bool := (rowOf ps i).any fun x => decide (x ∈ rowOf ps j)
def clash (ps : PS) (i j : Nat) : Bool := !decide (i = j) && (adj ps i j || touch ps i j)
/-! ### the least number that is not barred -/
theorem len_ge : ∀ (n : Nat) (b : List Nat), (∀ m, m < n → m ∈ b) → n ≤ b.length
  | 0, _, _ => Nat.zero_le _
  | n + 1, b, h => by
    have h1 := len_ge n (b.erase n) fun m hm => (List.mem_erase_of_ne (by omega)).mpr (h m (by omega))
    rw [List.length_erase_of_mem (h n (by omega))] at h1
    have := List.length_pos_of_mem (h n (by omega))
    omega
def leastFrom (b : List Nat) : Nat → Nat → Nat
  | 0, n => n
  | f + 1, n => if n ∈ b then leastFrom b f (n + 1) else n
def least (b : List Nat) : Nat := leastFrom b (b.length + 1) 0
theorem leastFrom_spec (b : List Nat) : ∀ (f n : Nat), b.length < f + n → (∀ m, m < n → m ∈ b) → leastFrom b f n ∉ b ∧ ∀ m, m < leastFrom b f n → m ∈ b
  | 0, n, hf, h => by have := len_ge n b h; omega
  | f + 1, n, hf, h => by
    unfold leastFrom
    by_cases e : n ∈ b
    · rw [if_pos e]
      exact leastFrom_spec b f (n + 1) (by omega) fun m hm => by
        by_cases q : m = n
        · exact q ▸ e
        · exact h m (by omega)
    · rw [if_neg e]
      exact ⟨e, h⟩
theorem least_not (b : List Nat) : least b ∉ b := (leastFrom_spec b (b.length + 1) 0 (by omega) (by omega)).1
theorem least_in (b : List Nat) : ∀ m, m < least b → m ∈ b := (leastFrom_spec b (b.length + 1) 0 (by omega) (by omega)).2
theorem least_le (b : List Nat) : least b ≤ b.length := len_ge _ b (least_in b)
theorem least_eq {b : List Nat} {n : Nat} (h1 : n ∉ b) (h2 : ∀ m, m < n → m ∈ b) : least b = n := by
  rcases Nat.lt_trichotomy n (least b) with h | h | h
  · exact absurd (least_in b n h) h1
  · exact h.symm
  · exact absurd (h2 _ h) (least_not b)
/-! ### slots -/
def slotsUpto (ps : PS) : Nat → List Nat
  | 0 => []
  | n + 1 => slotsUpto ps n ++ [least (((List.range n).filter fun l => clash ps l n).map fun l => (slotsUpto ps n).getD l 0)]
theorem slots_len (ps : PS) : ∀ n, (slotsUpto ps n).length = n
  | 0 => rfl
  | n + 1 => by
    show (slotsUpto ps n ++ _).length = n + 1
    rw [List.length_append, slots_len ps n]
    rfl
/-! ### values -/
theorem inV_nat (n : Nat) (b : List Nat) : inV (.int (n : Int)) (vN b) = decide (n ∈ b) := by
  unfold vN
  induction b with
  | nil => rfl
  | cons x r ih =>
    show (eqV (V.int (x : Int)) (.int (n : Int)) || inV (.int (n : Int)) (r.map fun n : Nat => V.int (n : Int))) = _
    rw [ih]
    by_cases e : n = x
    · subst e
      simp [eqV]
    · have e2 : ¬ ((x : Int) = (n : Int)) := fun q => e (by omega)
      simp [eqV, e, e2, List.mem_cons]
theorem vN_flat (b : List Nat) : (vN b).all flatV = true := by
  unfold vN
  induction b with
  | nil => rfl
  | cons x r ih => rw [List.map_cons, List.all_cons, ih]; rfl
theorem vN_len (b : List Nat) : (vN b).length = b.length := List.length_map ..
theorem vN_get {b : List Nat} {i n : Nat} (h : b[i]? = some n) : (vN b)[i]? = some (.int (n : Int)) := by
  unfold vN
  rw [List.getElem?_map, h]
  rfl
theorem vN_inv {K : PySem.W.Frag} {H : Hp} {ns : List Nat} {vs : List V} (h : DpAll K H vs (ns.map fun n : Nat => PyData.int (n : Int))) : vs = vN ns := by
  have e : (ns.map fun n : Nat => PyData.int (n : Int)) = (ns.map fun n : Nat => (n : Int)).map PyData.int := by rw [List.map_map]; rfl
  rw [e] at h
  rw [Lf.Dps.ints_inv h, List.map_map]
  rfl
theorem dN_list {K : PySem.W.Frag} {H : Hp} {ns : List Nat} {v : V} (h : Dp K H v (dN ns)) : ∃ a, v = .ref a ∧ SqL K H a (vN ns) := by
  obtain ⟨a, xs, e, h1, h2⟩ := Lf.dp_list h
  rw [vN_inv h2] at h1
  exact ⟨a, e, h1⟩
theorem vN_dps {K : PySem.W.Frag} {H : Hp} : ∀ ns : List Nat, DpAll K H (vN ns) (ns.map fun n : Nat => PyData.int (n : Int))
  | [] => .nil
  | n :: ns => .cons (.int _) (vN_dps ns)
theorem dP_tup {K : PySem.W.Frag} {H : Hp} {p : Nat × Nat} {v : V} (h : Dp K H v (dP p)) : ∃ a, v = .ref a ∧ SqT K H a [.int p.1, .int p.2] := by
  obtain ⟨a, xs, e, h1, h2⟩ := Lf.dp_tup h
  have e2 := Lf.Dps.ints_inv (ns := [(p.1 : Int), p.2]) h2
  rw [e2] at h1
  exact ⟨a, e, h1⟩
theorem dPs_list {K : PySem.W.Frag} {H : Hp} {ps : PS} {v : V} (h : Dp K H v (dPs ps)) : ∃ a xs, v = .ref a ∧ SqL K H a xs ∧ xs.length = ps.length ∧ ∀ (i : Nat) (x : V), xs[i]? = some x → ∃ p t, ps[i]? = some p ∧ x = .ref t ∧ SqT K H t [.int p.1, .int p.2] := by
  obtain ⟨a, xs, e, h1, h2⟩ := Lf.dp_list h
  refine ⟨a, xs, e, h1, by rw [Lf.Dps.len h2, List.length_map], fun i x hx => ?_⟩
  obtain ⟨d, hd, hp⟩ := Lf.Dps.get h2 hx
  rw [List.getElem?_map] at hd
  obtain ⟨p, e1, rfl⟩ := Option.map_eq_some_iff.mp hd
  obtain ⟨t, e2, h3⟩ := dP_tup hp
  exact ⟨p, t, e1, e2, h3⟩
theorem dNs_list {K : PySem.W.Frag} {H : Hp} {rows : List (List Nat)} {v : V} (h : Dp K H v (dNs rows)) : ∃ a xs, v = .ref a ∧ SqL K H a xs ∧ xs.length = rows.length ∧ ∀ (i : Nat) (row : List Nat), rows[i]? = some row → ∃ t, xs[i]? = some (.ref t) ∧ SqL K H t (vN row) := by
  obtain ⟨a, xs, e, h1, h2⟩ := Lf.dp_list h
  refine ⟨a, xs, e, h1, by rw [Lf.Dps.len h2, List.length_map], fun i row hr => ?_⟩
  obtain ⟨x, hx, hp⟩ := Lf.Dps.get2 h2 (i := i) (d := dN row) (by rw [List.getElem?_map, hr]; rfl)
  obtain ⟨t, e2, h3⟩ := dN_list hp
  exact ⟨t, by rw [hx, e2], h3⟩
/-- all items but the first -/
theorem cut1 (xs : List V) : cutV xs (some 1) none = xs.drop 1 := by
  unfold cutV
  have e1 : HT.sIx xs.length 0 (some 1) = min 1 xs.length := HT.sIx_nat xs.length 0 1
  rw [e1, HT.sIx_none]
  cases xs with
  | nil => rfl
  | cons x r =>
    have e2 : min 1 (x :: r).length = 1 := by
      rw [List.length_cons]
      omega
    rw [e2]
    show List.take ((x :: r).length - 1) r = r
    rw [List.length_cons, Nat.add_sub_cancel, List.take_length]
/-- a list of data by its places -/
theorem dps_of {K : PySem.W.Frag} {H : Hp} : ∀ {vs : List V} {ds : List PyData}, vs.length = ds.length → (∀ (i : Nat) v d, vs[i]? = some v → ds[i]? = some d → Dp K H v d) → DpAll K H vs ds
  | [], [], _, _ => .nil
  | [], _ :: _, h, _ => by cases h
  | _ :: _, [], h, _ => by cases h
  | v :: vs, d :: ds, h, f => .cons (f 0 v d rfl rfl) (dps_of (by simpa using h) fun i v' d' h1 h2 => f (i + 1) v' d' (by simpa using h1) (by simpa using h2))
end Wm
end
section
set_option Elab.async false
set_option linter.all false
set_option maxRecDepth 100000
set_option maxHeartbeats 4000000
namespace Wm
open PySem PySem.Spec PyProof.Rows L2 Lf
open Evl
/-! ### what may be compared and shown -/
theorem canAll : ∀ {ds : List PyData}, (∀ d ∈ ds, PyData.canLay0 d = true) → PyData.canLayAll0 ds = true
  | [], _ => rfl
  | d :: ds, h => by
    show (PyData.canLay0 d && PyData.canLayAll0 ds) = true
    rw [h d List.mem_cons_self, canAll fun e he => h e (List.mem_cons_of_mem _ he)]
    rfl
theorem depAll {n : Nat} : ∀ {ds : List PyData}, (∀ d ∈ ds, PyData.depth d ≤ n) → PyData.depthAll ds ≤ n
  | [], _ => Nat.zero_le _
  | d :: ds, h => by
    show max (PyData.depth d) (PyData.depthAll ds) ≤ n
    have h1 := h d List.mem_cons_self
    have h2 := depAll fun e he => h e (List.mem_cons_of_mem _ he)
    omega
/-- data of depth n at most -/
structure Sh (n : Nat) (d : PyData) : Prop where
  can : PyData.canLay0 d = true
  dep : PyData.depth d ≤ n
theorem Sh.mono {m n : Nat} {d : PyData} (h : Sh m d) (e : m ≤ n) : Sh n d := ⟨h.can, Nat.le_trans h.dep e⟩
theorem Sh.shaped {n : Nat} {d : PyData} (h : Sh n d) (e : n ≤ 64) : SeqAt.shaped d = true := by
  show (PyData.canLay0 d && decide (PyData.depth d ≤ 64)) = true
  rw [h.can, decide_eq_true (Nat.le_trans h.dep e)]
  rfl
theorem Sh.int (i : Int) : Sh 0 (.int i) := ⟨rfl, Nat.le_refl _⟩
theorem Sh.non : Sh 0 .none := ⟨rfl, Nat.le_refl _⟩
theorem Sh.bl (b : Bool) : Sh 0 (.bool b) := ⟨rfl, Nat.le_refl _⟩
theorem Sh.list {n : Nat} {ds : List PyData} (h : ∀ d ∈ ds, Sh n d) : Sh (n + 1) (.list ds) := ⟨canAll fun d hd => (h d hd).can, Nat.succ_le_succ (depAll fun d hd => (h d hd).dep)⟩
theorem Sh.tup {n : Nat} {ds : List PyData} (h : ∀ d ∈ ds, Sh n d) : Sh (n + 1) (.tuple ds) := ⟨canAll fun d hd => (h d hd).can, Nat.succ_le_succ (depAll fun d hd => (h d hd).dep)⟩
theorem sh_dP (p : Nat × Nat) : Sh 1 (dP p) := Sh.tup (n := 0) fun d hd => by
  rcases List.mem_cons.mp hd with rfl | hd
  · exact Sh.int _
  · rcases List.mem_cons.mp hd with rfl | hd
    · exact Sh.int _
    · cases hd
theorem sh_dPs (ps : PS) : Sh 2 (dPs ps) := Sh.list fun d hd => by
  obtain ⟨p, _, rfl⟩ := List.mem_map.mp hd
  exact sh_dP p
theorem sh_dN (ns : List Nat) : Sh 1 (dN ns) := Sh.list fun d hd => by
  obtain ⟨p, _, rfl⟩ := List.mem_map.mp hd
  exact Sh.int _
theorem sh_dNs (rows : List (List Nat)) : Sh 2 (dNs rows) := Sh.list fun d hd => by
  obtain ⟨p, _, rfl⟩ := List.mem_map.mp hd
  exact sh_dN p
theorem non_dPs (ps : PS) : ((ps.map dP).any fun z => PyData.eqv z .none) = false := by
  rw [List.any_eq_false]
  intro d hd
  obtain ⟨p, _, rfl⟩ := List.mem_map.mp hd
  exact fun h => Bool.noConfusion h
/-! ### a list of pairs whose tuples are told -/
def PairsIn (H : Hp) (ws : List V) (ps : PS) : Prop := ws.length = ps.length ∧ ∀ (i : Nat) (p : Nat × Nat), ps[i]? = some p → ∃ t, ws[i]? = some (.ref t) ∧ H t = some (.tup [.int p.1, .int p.2])
theorem PairsIn.ex {H H' : Hp} {ws : List V} {ps : PS} (h : PairsIn H ws ps) (e : Ex H H') : PairsIn H' ws ps := ⟨h.1, fun i p hp => let ⟨t, h1, h2⟩ := h.2 i p hp; ⟨t, h1, e _ _ h2⟩⟩
theorem PairsIn.upd {H : Hp} {ws us vs : List V} {ps : PS} {D : Addr} (h : PairsIn H ws ps) (hD : H D = some (.lst us)) : PairsIn (upd H D (.lst vs)) ws ps := ⟨h.1, fun i p hp => by
  obtain ⟨t, h1, h2⟩ := h.2 i p hp
  refine ⟨t, h1, ?_⟩
  rw [upd_ne (ne_of h2 hD (by intro z; cases z))]
  exact h2⟩
theorem PairsIn.nil (H : Hp) : PairsIn H [] [] := ⟨rfl, fun i p hp => by simp at hp⟩
theorem PairsIn.snoc {H : Hp} {ws : List V} {ps : PS} {t : Addr} {p : Nat × Nat} (h : PairsIn H ws ps) (ht : H t = some (.tup [.int p.1, .int p.2])) : PairsIn H (ws ++ [.ref t]) (ps ++ [p]) := by
  refine ⟨by rw [List.length_append, List.length_append, h.1] <;> rfl, fun i q hq => ?_⟩
  by_cases hi : i < ps.length
  · rw [List.getElem?_append_left hi] at hq
    obtain ⟨u, h1, h2⟩ := h.2 i q hq
    exact ⟨u, by rw [List.getElem?_append_left (by rw [h.1]; exact hi)]; exact h1, h2⟩
  · rw [List.getElem?_append_right (by omega)] at hq
    have e0 : i - ps.length = 0 := by
      have := (List.getElem?_eq_some_iff.mp hq).1
      simp at this
      omega
    rw [e0] at hq
    have e1 : p = q := Option.some.inj hq
    subst e1
    refine ⟨t, ?_, ht⟩
    rw [List.getElem?_append_right (by rw [h.1]; omega), h.1, e0]
    rfl
theorem PairsIn.dps {K : PySem.W.Frag} {H : Hp} {ws : List V} {ps : PS} (h : PairsIn H ws ps) : DpAll K H ws (ps.map dP) := by
  refine dps_of (by rw [h.1, List.length_map]) fun i v d h1 h2 => ?_
  rw [List.getElem?_map] at h2
  obtain ⟨p, e1, rfl⟩ := Option.map_eq_some_iff.mp h2
  obtain ⟨t, e2, h3⟩ := h.2 i p e1
  rw [h1] at e2
  cases e2
  exact .tup (.inl (.inl h3)) (.cons (.int _) (.cons (.int _) .nil))
theorem PairsIn.dp {K : PySem.W.Frag} {H : Hp} {a : Addr} {ws : List V} {ps : PS} (h : PairsIn H ws ps) (ha : SqL K H a ws) : Dp K H (.ref a) (dPs ps) := .lst ha h.dps
/-! ### rows of numbers in lists of their own -/
def RowsIn (H : Hp) (ws : List V) (rows : List (List Nat)) : Prop := ws.length = rows.length ∧ (∀ (i : Nat) (row : List Nat), rows[i]? = some row → ∃ t, ws[i]? = some (.ref t) ∧ H t = some (.lst (vN row))) ∧ ∀ (i j : Nat) (t : Addr), ws[i]? = some (.ref t) → ws[j]? = some (.ref t) → i = j
theorem RowsIn.dps {K : PySem.W.Frag} {H : Hp} {ws : List V} {rows : List (List Nat)} (h : RowsIn H ws rows) : DpAll K H ws (rows.map dN) := by
  refine dps_of (by rw [h.1, List.length_map]) fun i v d h1 h2 => ?_
  rw [List.getElem?_map] at h2
  obtain ⟨row, e1, rfl⟩ := Option.map_eq_some_iff.mp h2
  obtain ⟨t, e2, h3⟩ := h.2.1 i row e1
  rw [h1] at e2
  cases e2
  exact .lst (.inl (.inl h3)) (vN_dps row)
theorem RowsIn.put {H : Hp} {ws : List V} {rows : List (List Nat)} {i n : Nat} {row : List Nat} {t : Addr} (h : RowsIn H ws rows) (hr : rows[i]? = some row) (ht : ws[i]? = some (.ref t)) : RowsIn (upd H t (.lst (vN row ++ [.int (n : Int)]))) ws (rows.set i (row ++ [n])) := by
  refine ⟨by rw [List.length_set]; exact h.1, fun j row' hj => ?_, h.2.2⟩
  by_cases e : i = j
  · subst e
    rw [List.getElem?_set_self (List.getElem?_eq_some_iff.mp hr).1] at hj
    cases hj
    refine ⟨t, ht, ?_⟩
    rw [upd_same]
    unfold vN
    rw [List.map_append]
    rfl
  · rw [List.getElem?_set_ne e] at hj
    obtain ⟨u, h1, h2⟩ := h.2.1 j row' hj
    refine ⟨u, h1, ?_⟩
    have nut : u ≠ t := fun q => e (h.2.2 i j t ht (by rw [← q]; exact h1))
    rw [upd_ne nut]
    exact h2
/-- the rows behind some pairs -/
def rowsUpto (many : Nat) (ps : PS) (k : Nat) : List (List Nat) := (List.range many).map (rowOf (ps.take k))
theorem rowOf_snoc (ps : PS) (p : Nat × Nat) (i : Nat) : rowOf (ps ++ [p]) i = rowOf ps i ++ (if p.1 = i then [p.2] else if p.2 = i then [p.1] else []) := by
  unfold rowOf
  rw [List.filterMap_append]
  congr 1
  by_cases h1 : p.1 = i
  · simp [h1]
  · by_cases h2 : p.2 = i
    · simp [h1, h2]
    · simp [h1, h2]
theorem set_range {α : Type} (n i : Nat) (f : Nat → α) (x : α) (hi : i < n) : ((List.range n).map f).set i x = (List.range n).map fun j => if i = j then x else f j := by
  refine List.ext_getElem? fun j => ?_
  by_cases e : i = j
  · subst e
    rw [List.getElem?_set_self (by simpa using hi), List.getElem?_map, List.getElem?_range hi]
    simp
  · rw [List.getElem?_set_ne e, List.getElem?_map, List.getElem?_map]
    cases h : (List.range n)[j]? with
    | none => rfl
    | some k =>
      have hk : k = j := by
        have := List.getElem?_eq_some_iff.mp h
        obtain ⟨h1, h2⟩ := this
        rw [List.getElem_range] at h2
        exact h2.symm
      subst hk
      simp [e]
theorem rows_step {many k : Nat} {ps : PS} {a b : Nat} (hk : ps[k]? = some (a, b)) (hab : a < b) (hb : b < many) :
    ((rowsUpto many ps k).set a (rowOf (ps.take k) a ++ [b])).set b (rowOf (ps.take k) b ++ [a]) = rowsUpto many ps (k + 1) := by
  unfold rowsUpto
  rw [set_range _ _ _ _ (by omega), set_range _ _ _ _ hb]
  have e : ps.take (k + 1) = ps.take k ++ [(a, b)] := by
    rw [List.take_add_one, hk]
    rfl
  rw [e]
  refine List.map_congr_left fun j _ => ?_
  rw [rowOf_snoc]
  by_cases h1 : b = j
  · subst h1
    have h2 : ¬ a = b := by omega
    simp [h2]
  · by_cases h2 : a = j
    · subst h2
      simp [h1]
    · simp [h1, h2]
theorem near_all (many : Nat) (ps : PS) : rowsUpto many ps ps.length = nearOf many ps := by
  unfold rowsUpto nearOf
  rw [List.take_length]
theorem rows_zero (many : Nat) (ps : PS) : rowsUpto many ps 0 = List.replicate many [] := by
  unfold rowsUpto
  refine List.ext_getElem? fun j => ?_
  rw [List.getElem?_map, List.getElem?_replicate]
  by_cases h : j < many
  · rw [List.getElem?_range h, if_pos h]
    rfl
  · rw [List.getElem?_eq_none (by simpa using h), if_neg h]
    rfl
end Wm
end
section
set_option Elab.async false
set_option linter.all false
set_option maxRecDepth 100000
set_option maxHeartbeats 4000000
namespace Wm
open PySem PySem.Spec PyProof.Rows L2 Lf
open Evl
/-! ### a web's object -/
def webF (m : Nat) (a1 a2 : Addr) : List (Str × V) := [(("_many" : Str), V.int (m : Int)), (("_pairs" : Str), V.ref a1), (("_near" : Str), V.ref a2)]
def WebAt (K : PySem.W.Frag) (C : Addr) (H : Hp) (p : Addr) (m : Nat) (ps : PS) : Prop := Good m ps ∧ ∃ dx a1 a2, H p = some (.ins C dx (webF m a1 a2)) ∧ Dp K H (.ref a1) (dPs ps) ∧ Dp K H (.ref a2) (dNs (nearOf m ps))
theorem WebAt.ex {K : PySem.W.Frag} {C : Addr} {H H' : Hp} {p : Addr} {m : Nat} {ps : PS} (h : WebAt K C H p m ps) (e : Ex H H') : WebAt K C H' p m ps := by
  obtain ⟨g, dx, a1, a2, h1, h2, h3⟩ := h
  exact ⟨g, dx, a1, a2, e _ _ h1, Dp.ex h2 e, Dp.ex h3 e⟩
theorem webF_put (m : Nat) (a1 a2 : Addr) : putF "_near" (.ref a2) (putF "_pairs" (.ref a1) (putF "_many" (.int (m : Int)) [])) = webF m a1 a2 := by
  have n1 : ¬ (("_many" : Str) = "_pairs") := by decide +kernel
  have n2 : ¬ (("_many" : Str) = "_near") := by decide +kernel
  have n3 : ¬ (("_pairs" : Str) = "_near") := by decide +kernel
  show putF "_near" (.ref a2) (putF "_pairs" (.ref a1) [(("_many" : Str), V.int (m : Int))]) = _
  have e1 : putF "_pairs" (.ref a1) [(("_many" : Str), V.int (m : Int))] = [(("_many" : Str), V.int (m : Int)), (("_pairs" : Str), V.ref a1)] := by
    show (if ("_many" : Str) = "_pairs" then _ else _) = _
    rw [if_neg n1]
    rfl
  rw [e1]
  show (if ("_many" : Str) = "_near" then _ else _ :: (if ("_pairs" : Str) = "_near" then _ else _ :: putF "_near" (.ref a2) [])) = _
  rw [if_neg n2, if_neg n3]
  rfl
theorem webF_many (m : Nat) (a1 a2 : Addr) : (webF m a1 a2).lookup ("_many" : Str) = some (.int (m : Int)) := by
  rw [← webF_put, lookup_putF, if_neg (by decide +kernel), lookup_putF, if_neg (by decide +kernel), lookup_putF, if_pos rfl]
theorem webF_pairs (m : Nat) (a1 a2 : Addr) : (webF m a1 a2).lookup ("_pairs" : Str) = some (.ref a1) := by
  rw [← webF_put, lookup_putF, if_neg (by decide +kernel), lookup_putF, if_pos rfl]
theorem webF_near (m : Nat) (a1 a2 : Addr) : (webF m a1 a2).lookup ("_near" : Str) = some (.ref a2) := by
  rw [← webF_put, lookup_putF, if_pos rfl]
theorem webF_no (m : Nat) (a1 a2 : Addr) {x : Str} (h1 : ¬ x = "_many") (h2 : ¬ x = "_pairs") (h3 : ¬ x = "_near") : (webF m a1 a2).lookup x = none := by
  rw [← webF_put, lookup_putF, if_neg h3, lookup_putF, if_neg h2, lookup_putF, if_neg h1]
  rfl
/-! ### data does not hang on an instance -/
theorem rd_ins {H : Hp} {x C dx a : Addr} {fs : List (Str × V)} {o u : HO} (hx : H x = some (.ins C dx fs)) (hu : ∀ C dx fs, u ≠ .ins C dx fs) (h : Rd H a u) : Rd (upd H x o) a u := by
  rcases h with h | ⟨ob, h⟩
  · refine .inl ?_
    rw [upd_ne (ne_of h hx (hu C dx fs))]
    exact h
  · refine .inr ⟨ob, ?_⟩
    rw [upd_ne (ne_of h hx (by intro z; cases z))]
    exact h
mutual
theorem dp_ins {K : PySem.W.Frag} {H : Hp} {x C dx : Addr} {fs : List (Str × V)} {o : HO} (hx : H x = some (.ins C dx fs)) : ∀ (d : PyData) (v : V), Dp K H v d → Dp K (upd H x o) v d
  | .none, _, h => by cases h; exact .non
  | .bool b, _, h => by cases h; exact .bl b
  | .int i, _, h => by cases h; exact .int i
  | .str x, _, h => by cases h; exact .str x
  | .list ds, _, h => by
    cases h with
    | lst h1 h2 => exact .lst (h1.imp (rd_ins hx (by intro _ _ _ z; cases z)) id) (dps_ins hx ds _ h2)
  | .tuple ds, _, h => by
    cases h with
    | tup h1 h2 => exact .tup (h1.imp (rd_ins hx (by intro _ _ _ z; cases z)) id) (dps_ins hx ds _ h2)
  | .dict _, _, h => by cases h
theorem dps_ins {K : PySem.W.Frag} {H : Hp} {x C dx : Addr} {fs : List (Str × V)} {o : HO} (hx : H x = some (.ins C dx fs)) : ∀ (ds : List PyData) (vs : List V), DpAll K H vs ds → DpAll K (upd H x o) vs ds
  | [], _, h => by cases h; exact .nil
  | d :: ds, _, h => by
    cases h with
    | cons h1 h2 => exact .cons (dp_ins hx d _ h1) (dps_ins hx ds _ h2)
end
theorem PairsIn.ins {H : Hp} {x C dx : Addr} {fs : List (Str × V)} {o : HO} {ws : List V} {ps : PS} (h : PairsIn H ws ps) (hx : H x = some (.ins C dx fs)) : PairsIn (L2.upd H x o) ws ps := ⟨h.1, fun i p hp => by
  obtain ⟨t, h1, h2⟩ := h.2 i p hp
  refine ⟨t, h1, ?_⟩
  rw [upd_ne (ne_of h2 hx (by intro z; cases z))]
  exact h2⟩
theorem RowsIn.ins {H : Hp} {x C dx : Addr} {fs : List (Str × V)} {o : HO} {ws : List V} {rows : List (List Nat)} (h : RowsIn H ws rows) (hx : H x = some (.ins C dx fs)) : RowsIn (L2.upd H x o) ws rows := ⟨h.1, fun i p hp => by
  obtain ⟨t, h1, h2⟩ := h.2.1 i p hp
  refine ⟨t, h1, ?_⟩
  rw [upd_ne (ne_of h2 hx (by intro z; cases z))]
  exact h2, h.2.2⟩
theorem RowsIn.ex {H H' : Hp} {ws : List V} {rows : List (List Nat)} (h : RowsIn H ws rows) (e : Ex H H') : RowsIn H' ws rows := ⟨h.1, fun i p hp => let ⟨t, h1, h2⟩ := h.2.1 i p hp; ⟨t, h1, e _ _ h2⟩, h.2.2⟩
/-- a web that was made at H0 -/
def WebNew (C : Addr) (H0 H : Hp) (x : Addr) (m : Nat) (ps : PS) : Prop := Good m ps ∧ ∃ dx a1 a2 ws1 ws2, H x = some (.ins C dx (webF m a1 a2)) ∧ H a1 = some (.lst ws1) ∧ H a2 = some (.lst ws2) ∧ PairsIn H ws1 ps ∧ RowsIn H ws2 (nearOf m ps) ∧ H0 x = none ∧ H0 a1 = none ∧ H0 a2 = none ∧ ∀ (i : Nat) (t : Addr), ws2[i]? = some (.ref t) → H0 t = none
theorem WebNew.at {K : PySem.W.Frag} {C : Addr} {H0 H : Hp} {x : Addr} {m : Nat} {ps : PS} (h : WebNew C H0 H x m ps) : WebAt K C H x m ps := by
  obtain ⟨g, dx, a1, a2, ws1, ws2, h1, h2, h3, h4, h5, _⟩ := h
  exact ⟨g, dx, a1, a2, h1, h4.dp (sq_of h2), .lst (sq_of h3) h5.dps⟩
/-! ### the slots' list holds -/
def slotsHold (m : Nat) (ps : PS) (ns : List Int) : Bool :=
  decide (ns.length = m) && (!(ns.any fun n => decide (n < 0)) && (List.range m).all fun pl => !((List.range pl).any fun l => decide (ns.getD l 0 = ns.getD pl 0) && clash ps l pl))
theorem nearOf_get {m : Nat} {ps : PS} {i : Nat} (h : i < m) : (nearOf m ps)[i]? = some (rowOf ps i) := by
  unfold nearOf
  rw [List.getElem?_map, List.getElem?_range h]
  rfl
theorem any_getD {b : List Nat} (f : Nat → Bool) : b.any f = (List.range b.length).any fun j => f (b.getD j 0) := by
  induction b with
  | nil => rfl
  | cons x r ih =>
    rw [List.length_cons, List.range_succ_eq_map, List.any_cons, List.any_cons, List.any_map, ih]
    rfl
theorem any_getI {b : List Int} {f : Int → Bool} : b.any f = (List.range b.length).any fun j => f (b.getD j 0) := by
  induction b with
  | nil => rfl
  | cons x r ih =>
    rw [List.length_cons, List.range_succ_eq_map, List.any_cons, List.any_cons, List.any_map, ih]
    rfl
theorem given_filter (b : List Nat) (f : Nat → Bool) : given b.length (fun n => f (b.getD n 0)) (fun n => V.int ((b.getD n 0 : Nat) : Int)) = vN (b.filter f) := by
  unfold given vN
  have e : b = (List.range b.length).map fun n => b.getD n 0 := by
    refine List.ext_getElem? fun i => ?_
    by_cases q : i < b.length
    · rw [List.getElem?_map, List.getElem?_range q]
      show b[i]? = some (b.getD i 0)
      rw [List.getD_eq_getElem?_getD, List.getElem?_eq_getElem q]
      rfl
    · rw [List.getElem?_eq_none (by omega), List.getElem?_eq_none (by simpa using q)]
  conv => rhs; rw [e]
  rw [List.filter_map, List.map_map]
  rfl
theorem ne_nil (ns : List Nat) : (!PyData.eqv (dN ns) (.list [])) = !ns.isEmpty := by
  cases ns with
  | nil => rfl
  | cons x r => rfl
theorem filter_any (b : List Nat) (f : Nat → Bool) : (!(b.filter f).isEmpty) = b.any f := by
  induction b with
  | nil => rfl
  | cons x r ih =>
    rw [List.filter_cons, List.any_cons]
    by_cases h : f x = true
    · rw [if_pos h, h]
      rfl
    · rw [if_neg h, ih, Bool.eq_false_iff.mpr h, Bool.false_or]
theorem vN_at {b : List Nat} {j : Nat} {x : V} (h : (vN b)[j]? = some x) : ∃ n : Nat, x = .int (n : Int) ∧ b[j]? = some n := by
  unfold vN at h
  rw [List.getElem?_map] at h
  obtain ⟨n, h1, h2⟩ := Option.map_eq_some_iff.mp h
  exact ⟨n, h2.symm, h1⟩
end Wm
end
section
set_option Elab.async false
set_option linter.all false
set_option maxRecDepth 100000
set_option maxHeartbeats 4000000
namespace Wm
open PySem PySem.Spec PyProof.Rows L2 Lf
open Evl
theorem rowOf_sorted {many : Nat} {ps : PS} (g : Good many ps) (i : Nat) : (rowOf ps i).Pairwise (· < ·) := by
  unfold rowOf
  have h : ps.Pairwise fun p q => lt2 p q ∧ p.1 < p.2 ∧ q.1 < q.2 := by
    refine List.Pairwise.imp_of_mem (fun {p q} hp hq h => ⟨h, (g.lt p hp).1, (g.lt q hq).1⟩) g.pw
  refine List.Pairwise.filterMap _ (fun p q ⟨h1, h2, h3⟩ x hx y hy => ?_) h
  have hx : (if p.1 = i then some p.2 else if p.2 = i then some p.1 else none) = some x := hx
  have hy : (if q.1 = i then some q.2 else if q.2 = i then some q.1 else none) = some y := hy
  have h1 : p.1 < q.1 ∨ (p.1 = q.1 ∧ p.2 < q.2) := h1
  split at hx
  · split at hy
    · cases hx; cases hy; omega
    · split at hy
      · cases hx; cases hy; omega
      · cases hy
  · split at hx
    · split at hy
      · cases hx; cases hy; omega
      · split at hy
        · cases hx; cases hy; omega
        · cases hy
    · cases hx
theorem rowOf_lt {many : Nat} {ps : PS} (g : Good many ps) {i n : Nat} (h : n ∈ rowOf ps i) : n < many := by
  unfold rowOf at h
  obtain ⟨p, hp, e⟩ := List.mem_filterMap.mp h
  obtain ⟨h1, h2⟩ := g.lt p hp
  split at e
  · cases e; omega
  · split at e
    · cases e; omega
    · cases e
theorem sorted_row {many : Nat} {ps : PS} (g : Good many ps) {i : Nat} {ns : List Int} (hp : ns.Perm ((rowOf ps i).map fun n : Nat => (n : Int))) (hs : ns.Pairwise (· ≤ ·)) : ns = (rowOf ps i).map fun n : Nat => (n : Int) := by
  refine PySem.W.ksm_same hp hs ?_
  rw [List.pairwise_map]
  exact List.Pairwise.imp (fun h => by omega) (rowOf_sorted g i)
theorem adj_of {many : Nat} {ps : PS} (g : Good many ps) {a b : Nat} (h : (a, b) ∈ ps) : adj ps a b = true ∧ adj ps b a = true := by
  have h1 := (g.lt _ h).1
  refine ⟨decide_eq_true ?_, decide_eq_true ?_⟩
  · exact List.mem_filterMap.mpr ⟨(a, b), h, by simp⟩
  · have h1 : a < b := h1
    exact List.mem_filterMap.mpr ⟨(a, b), h, by have : ¬ a = b := by omega
                                                simp [this]⟩
theorem clash_of {many : Nat} {ps : PS} (g : Good many ps) {a b : Nat} (h : (a, b) ∈ ps) : clash ps a b = true := by
  have h1 : a < b := (g.lt _ h).1
  unfold clash
  rw [(adj_of g h).1]
  have : ¬ a = b := by omega
  simp [this]
/-! ### the slots, each the least that no lesser clashing place has -/
def lesser (ps : PS) (n : Nat) : List Nat := ((List.range n).filter fun l => clash ps l n).map fun l => (slotsUpto ps n).getD l 0
theorem slots_stay (ps : PS) {i : Nat} : ∀ {n m : Nat}, i < n → n ≤ m → (slotsUpto ps m)[i]? = (slotsUpto ps n)[i]?
  | n, 0, h, h2 => by omega
  | n, m + 1, h, h2 => by
    by_cases e : n = m + 1
    · rw [e]
    · show (slotsUpto ps m ++ _)[i]? = _
      rw [List.getElem?_append_left (by rw [slots_len]; omega)]
      exact slots_stay ps h (by omega)
theorem slots_at (ps : PS) {i m : Nat} (h : i < m) : (slotsUpto ps m)[i]? = some (least (lesser ps i)) := by
  rw [slots_stay ps (Nat.lt_succ_self i) h]
  show (slotsUpto ps i ++ [_])[i]? = _
  rw [List.getElem?_append_right (by rw [slots_len]; exact Nat.le_refl _), slots_len, Nat.sub_self]
  rfl
theorem slots_get (ps : PS) {i m : Nat} (h : i < m) : (slotsUpto ps m).getD i 0 = least (lesser ps i) := by
  rw [List.getD_eq_getElem?_getD, slots_at ps h]
  rfl
theorem lesser_eq (ps : PS) {i m : Nat} (h : i ≤ m) : lesser ps i = ((List.range i).filter fun l => clash ps l i).map fun l => (slotsUpto ps m).getD l 0 := by
  unfold lesser
  refine List.map_congr_left fun l hl => ?_
  have hl : l < i := List.mem_range.mp (List.mem_filter.mp hl).1
  rw [slots_get ps hl, slots_get ps (Nat.lt_of_lt_of_le hl h)]
/-- clashing places have unlike slots -/
theorem slots_apart (ps : PS) {a b m : Nat} (h : a < b) (hb : b < m) (hc : clash ps a b = true) : (slotsUpto ps m).getD a 0 ≠ (slotsUpto ps m).getD b 0 := by
  intro e
  rw [slots_get ps hb] at e
  refine least_not (lesser ps b) ?_
  rw [← e, lesser_eq ps (Nat.le_of_lt hb)]
  exact List.mem_map.mpr ⟨a, List.mem_filter.mpr ⟨List.mem_range.mpr h, hc⟩, rfl⟩
theorem slots_hold_ok {m : Nat} (ps : PS) : slotsHold m ps ((slotsUpto ps m).map fun n : Nat => (n : Int)) = true := by
  unfold slotsHold
  have gd : ∀ i, i < m → ((slotsUpto ps m).map fun n : Nat => (n : Int)).getD i 0 = (((slotsUpto ps m).getD i 0 : Nat) : Int) := by
    intro i hi
    rw [List.getD_eq_getElem?_getD, List.getD_eq_getElem?_getD, List.getElem?_map, slots_at ps hi]
    rfl
  have h1 : decide (((slotsUpto ps m).map fun n : Nat => (n : Int)).length = m) = true := decide_eq_true (by rw [List.length_map, slots_len])
  have h2 : (((slotsUpto ps m).map fun n : Nat => (n : Int)).any fun n => decide (n < 0)) = false := by
    rw [List.any_eq_false]
    intro x hx
    obtain ⟨n, _, rfl⟩ := List.mem_map.mp hx
    rw [decide_eq_false (by omega)]
    decide
  rw [h1, h2]
  show ((List.range m).all fun pl => _) = true
  rw [List.all_eq_true]
  intro pl hpl
  have hpl := List.mem_range.mp hpl
  rw [Bool.not_eq_true', List.any_eq_false]
  intro l hl
  have hl := List.mem_range.mp hl
  rw [gd l (by omega), gd pl hpl]
  intro hh
  rw [Bool.and_eq_true, decide_eq_true_eq] at hh
  exact slots_apart ps hl hpl hh.2 (by have := hh.1; omega)
theorem slots_hold_no {m : Nat} {ps : PS} {ns : List Int} {a b : Nat} (hab : a < b) (hb : b < m) (hc : clash ps a b = true) (e : ns.getD a 0 = ns.getD b 0) : slotsHold m ps ns = false := by
  unfold slotsHold
  have : ((List.range m).all fun pl => !((List.range pl).any fun l => decide (ns.getD l 0 = ns.getD pl 0) && clash ps l pl)) = false := by
    rw [List.all_eq_false]
    refine ⟨b, List.mem_range.mpr hb, ?_⟩
    rw [Bool.not_eq_true', Bool.not_eq_false]
    rw [List.any_eq_true]
    exact ⟨a, List.mem_range.mpr hab, by rw [hc, decide_eq_true e]; rfl⟩
  rw [this, Bool.and_false, Bool.and_false]
theorem given_vN (ps : PS) (i m : Nat) : given i (fun j => clash ps j i) (fun j => V.int (((slotsUpto ps m).getD j 0 : Nat) : Int)) = vN (((List.range i).filter fun l => clash ps l i).map fun l => (slotsUpto ps m).getD l 0) := by
  unfold given vN
  rw [List.map_map]
  rfl
theorem lesser_len (ps : PS) (n : Nat) : (lesser ps n).length ≤ n := by
  unfold lesser
  rw [List.length_map]
  have h := List.length_filter_le (fun l => clash ps l n) (List.range n)
  rw [List.length_range] at h
  exact h
end Wm
end
section
set_option Elab.async false
set_option linter.all false
set_option maxRecDepth 100000
set_option maxHeartbeats 4000000
namespace Wm
open PySem PySem.Spec PyProof.Rows L2 Lf
open Evl
theorem bag_lst {H : Hp} {b : Addr × Addr} (h : Bag H b) : ∃ xs, H b.1 = some (.lst xs) := let ⟨_, _, _, _, h1, _⟩ := h; ⟨_, h1⟩
theorem tup_ne {H : Hp} {b : Addr × Addr} {t : Addr} {xs : List V} (h : Bag H b) (ht : H t = some (.tup xs)) : t ≠ b.1 := let ⟨_, h1⟩ := bag_lst h; ne_of ht h1 (by intro z; cases z)
theorem PairsIn.step {H H' : Hp} {b : Addr × Addr} {ws : List V} {ps : PS} (h : PairsIn H ws ps) (hb : Bag H b) (s : Step b H H') : PairsIn H' ws ps := ⟨h.1, fun i p hp => let ⟨t, h1, h2⟩ := h.2 i p hp; ⟨t, h1, s.at (tup_ne hb h2) h2⟩⟩
theorem PairsIn.mask {H : Hp} {b : Addr × Addr} {ws : List V} {ps : PS} (h : PairsIn H ws ps) (hb : Bag H b) : PairsIn (mask b.1 H) ws ps := ⟨h.1, fun i p hp => let ⟨t, h1, h2⟩ := h.2 i p hp; ⟨t, h1, by rw [mask_at (tup_ne hb h2)]; exact h2⟩⟩
theorem seldom_at {way : Int} (h0 : 0 ≤ way) (h1 : way < 6) : ∃ sd : Int, atI [V.int 9, V.int 9, V.int 3, V.int 5, V.int 9, V.int 2] way = some (.int sd) ∧ 2 ≤ sd ∧ sd ≤ 9 := by
  obtain ⟨n, rfl⟩ := Int.eq_ofNat_of_zero_le h0
  have hn : n < 6 := by omega
  match n, hn with
  | 0, _ => exact ⟨9, rfl, by decide, by decide⟩
  | 1, _ => exact ⟨9, rfl, by decide, by decide⟩
  | 2, _ => exact ⟨3, rfl, by decide, by decide⟩
  | 3, _ => exact ⟨5, rfl, by decide, by decide⟩
  | 4, _ => exact ⟨9, rfl, by decide, by decide⟩
  | 5, _ => exact ⟨2, rfl, by decide, by decide⟩
theorem tany_take {b : Addr × Addr} {σ : L2.St} {H : Hp} {many : Int} {i j : Nat} (hb : Bag H b) (hi : σ[i]? = some (some (.ref b.1))) (hj : σ[j]? = some (some (.int many))) (hm : 0 < many ∧ many < 1073741824) :
    TAny (Step b) (tTest (tOp rEq (tCl spTake E0 (tCons (tVar i) (tCons (tVar j) tNil))) (tC (.int 0)))) σ H := fun Q q =>
  ⟨_, hi, _, hj, b, many, rfl, hb, hm, fun v H' _ _ bg s => ⟨rfl, _, rfl, q _ _ (.draw bg s)⟩⟩
theorem RowsIn.mask {H0 H : Hp} {b : Addr} {ws : List V} {rows : List (List Nat)} (h : RowsIn H ws rows) (hb : H0 b ≠ none) (hf : ∀ (i : Nat) (t : Addr), ws[i]? = some (.ref t) → H0 t = none) : RowsIn (mask b H) ws rows := ⟨h.1, fun i row hr => by
  obtain ⟨t, h1, h2⟩ := h.2.1 i row hr
  refine ⟨t, h1, ?_⟩
  have : t ≠ b := fun e => hb (e ▸ hf i t h1)
  rw [mask_at this]
  exact h2, h.2.2⟩
theorem WebNew.mask {K : PySem.W.Frag} {C : Addr} {H0 H : Hp} {x : Addr} {m : Nat} {ps : PS} {b : Addr × Addr} (h : WebNew C H0 H x m ps) (hb0 : Bag H0 b) (hb : Bag H b) : WebAt K C (mask b.1 H) x m ps := by
  obtain ⟨g, dx, a1, a2, ws1, ws2, h1, h2, h3, h4, h5, f0, f1, f2, fr⟩ := h
  have nb : H0 b.1 ≠ none := by
    obtain ⟨xs, q⟩ := bag_lst hb0
    rw [q]
    exact fun z => nomatch z
  have ne : ∀ {a : Addr}, H0 a = none → a ≠ b.1 := fun h e => nb (e ▸ h)
  exact ⟨g, dx, a1, a2, by rw [mask_at (ne f0)]; exact h1, (h4.mask hb).dp (sq_of (by rw [mask_at (ne f1)]; exact h2)), .lst (sq_of (by rw [mask_at (ne f2)]; exact h3)) (h5.mask nb fr).dps⟩
theorem RowsIn.snoc {H : Hp} {ws : List V} {rows : List (List Nat)} {t : Addr} {row : List Nat} (h : RowsIn H ws rows) (ht : H t = some (.lst (vN row))) (hf : ∀ j : Nat, ws[j]? ≠ some (.ref t)) : RowsIn H (ws ++ [.ref t]) (rows ++ [row]) := by
  have hl := h.1
  refine ⟨by rw [List.length_append, List.length_append, hl] <;> rfl, fun i r hr => ?_, fun i j u h1 h2 => ?_⟩
  · by_cases hi : i < rows.length
    · rw [List.getElem?_append_left hi] at hr
      obtain ⟨u, h1, h2⟩ := h.2.1 i r hr
      exact ⟨u, by rw [List.getElem?_append_left (by omega)]; exact h1, h2⟩
    · rw [List.getElem?_append_right (by omega)] at hr
      have e0 : i - rows.length = 0 := by
        have := (List.getElem?_eq_some_iff.mp hr).1
        simp at this
        omega
      rw [e0] at hr
      cases hr
      refine ⟨t, ?_, ht⟩
      rw [List.getElem?_append_right (by omega), hl, e0]
      rfl
  · have old : ∀ (k : Nat), (ws ++ [V.ref t])[k]? = some (.ref u) → (ws[k]? = some (.ref u)) ∨ (k = ws.length ∧ u = t) := by
      intro k hk
      by_cases q : k < ws.length
      · rw [List.getElem?_append_left q] at hk
        exact .inl hk
      · rw [List.getElem?_append_right (by omega)] at hk
        have q2 := (List.getElem?_eq_some_iff.mp hk).1
        have e0 : k = ws.length := by simp at q2; omega
        subst e0
        rw [Nat.sub_self] at hk
        cases hk
        exact .inr ⟨rfl, rfl⟩
    rcases old i h1 with a | ⟨a, a2⟩ <;> rcases old j h2 with c | ⟨c, c2⟩
    · exact h.2.2 i j u a c
    · rw [c2] at a
      exact absurd a (hf i)
    · rw [a2] at c
      exact absurd c (hf j)
    · omega
theorem RowsIn.updD {H : Hp} {ws : List V} {rows : List (List Nat)} {D : Addr} {o : HO} (h : RowsIn H ws rows) (hf : ∀ j : Nat, ws[j]? ≠ some (.ref D)) : RowsIn (L2.upd H D o) ws rows := ⟨h.1, fun i r hr => by
  obtain ⟨u, h1, h2⟩ := h.2.1 i r hr
  have nu : u ≠ D := fun e => hf i (e ▸ h1)
  exact ⟨u, h1, by rw [upd_ne nu]; exact h2⟩, h.2.2⟩
theorem RowsIn.notnew {H : Hp} {ws : List V} {rows : List (List Nat)} {t : Addr} (h : RowsIn H ws rows) (ht : H t = none) : ∀ j : Nat, ws[j]? ≠ some (.ref t) := fun j hj => by
  have hl := (List.getElem?_eq_some_iff.mp hj).1
  have hl2 : j < rows.length := by rw [← h.1]; exact hl
  obtain ⟨u, h1, h2⟩ := h.2.1 j _ (List.getElem?_eq_getElem hl2)
  rw [hj] at h1
  cases h1
  rw [ht] at h2
  cases h2
end Wm
end
section
set_option Elab.async false
set_option linter.all false
set_option maxRecDepth 100000
set_option maxHeartbeats 4000000
namespace Wm
open PySem PySem.Spec PyProof.Rows L2 Lf
open Evl
/-! data that is short enough to be written out -/
structure Rep (n w : Nat) (d : PyData) : Prop where
  sh : Sh n d
  wt : PyData.weight d ≤ w
  sm : PyData.leavesShort 13 d = true
  ok : PyData.showable d = true
theorem weightAll_le {w : Nat} : ∀ {ds : List PyData}, (∀ d ∈ ds, PyData.weight d ≤ w) → PyData.weightAll ds ≤ ds.length * (w + 1)
  | [], _ => Nat.zero_le _
  | d :: ds, h => by
    have h1 := h d List.mem_cons_self
    have h2 := weightAll_le (ds := ds) fun x hx => h x (List.mem_cons_of_mem _ hx)
    rw [PyData.weightAll, List.length_cons, Nat.succ_mul]
    omega
theorem smAll : ∀ {ds : List PyData}, (∀ d ∈ ds, PyData.leavesShort 13 d = true) → PyData.leavesShortAll 13 ds = true
  | [], _ => rfl
  | d :: ds, h => by
    rw [PyData.leavesShortAll, h d List.mem_cons_self, smAll (ds := ds) fun x hx => h x (List.mem_cons_of_mem _ hx)]
    rfl
theorem okAll : ∀ {ds : List PyData}, (∀ d ∈ ds, PyData.showable d = true) → PyData.showableAll ds = true
  | [], _ => rfl
  | d :: ds, h => by
    rw [PyData.showableAll, h d List.mem_cons_self, okAll (ds := ds) fun x hx => h x (List.mem_cons_of_mem _ hx)]
    rfl
theorem Rep.mono {m n v w : Nat} {d : PyData} (h : Rep m v d) (e : m ≤ n) (e2 : v ≤ w) : Rep n w d := ⟨h.sh.mono e, Nat.le_trans h.wt e2, h.sm, h.ok⟩
theorem log_lt {k j : Nat} (h : k < 2 ^ (j + 1)) : k.log2 < j + 1 := by
  by_cases q : k = 0
  · rw [q]
    exact Nat.succ_pos _
  · exact (Nat.log2_lt q).mpr h
theorem Rep.int {i : Int} (h : i.natAbs < 10 ^ 12) : Rep 0 40 (.int i) := by
  have h1 : i.natAbs.log2 < 39 + 1 := log_lt (Nat.lt_of_lt_of_le h (by decide))
  refine ⟨Sh.int i, ?_, ?_, ?_⟩
  · rw [PyData.weight]
    split <;> omega
  · rw [PyData.leavesShort]
    exact decide_eq_true (PyData.shown_int_le h)
  · rw [PyData.showable]
    exact decide_eq_true (by omega)
theorem Rep.bl (b : Bool) : Rep 0 0 (.bool b) := ⟨Sh.bl b, Nat.le_refl _, rfl, rfl⟩
theorem Rep.non : Rep 0 0 .none := ⟨Sh.non, Nat.le_refl _, rfl, rfl⟩
theorem Rep.list {n w : Nat} {ds : List PyData} (h : ∀ d ∈ ds, Rep n w d) : Rep (n + 1) (ds.length * (w + 1)) (.list ds) := ⟨Sh.list fun d hd => (h d hd).sh, by
  rw [PyData.weight]
  exact weightAll_le fun d hd => (h d hd).wt, by
  rw [PyData.leavesShort]
  exact smAll fun d hd => (h d hd).sm, by
  rw [PyData.showable]
  exact okAll fun d hd => (h d hd).ok⟩
theorem Rep.tup {n w : Nat} {ds : List PyData} (h : ∀ d ∈ ds, Rep n w d) : Rep (n + 1) (ds.length * (w + 1)) (.tuple ds) := ⟨Sh.tup fun d hd => (h d hd).sh, by
  rw [PyData.weight]
  exact weightAll_le fun d hd => (h d hd).wt, by
  rw [PyData.leavesShort]
  exact smAll fun d hd => (h d hd).sm, by
  rw [PyData.showable]
  exact okAll fun d hd => (h d hd).ok⟩
theorem Rep.size {n : Nat} {d : PyData} (h : Rep n 1000000 d) : d.shown.length ≤ sizeLine := PyData.shown_fits (B := 13) (by decide) (by decide) h.sm (Nat.le_trans h.wt (by decide))
theorem Rep.eqv {n w : Nat} {d : PyData} (h : Rep n w d) : PyData.eqv d d = true := SeqAt.eqv_refl d h.sh.can
theorem rep_dN {ns : List Nat} (h : ∀ n ∈ ns, n < 1000) : Rep 1 (ns.length * 41) (dN ns) := by
  have := Rep.list (n := 0) (w := 40) (ds := ns.map fun n : Nat => PyData.int (n : Int)) (fun d hd => by
    obtain ⟨n, hn, rfl⟩ := List.mem_map.mp hd
    have := h n hn
    exact Rep.int (by show n < _; omega))
  rw [List.length_map] at this
  exact this
theorem rep_dP {p : Nat × Nat} (h1 : p.1 < 1000) (h2 : p.2 < 1000) : Rep 1 82 (dP p) := Rep.tup (n := 0) (w := 40) (ds := [.int (p.1 : Int), .int (p.2 : Int)]) (fun d hd => by
  rcases List.mem_cons.mp hd with rfl | hd
  · exact Rep.int (by show p.1 < _; omega)
  · rw [List.mem_singleton.mp hd]
    exact Rep.int (by show p.2 < _; omega))
theorem rep_dPs {m : Nat} {ps : PS} (g : Good m ps) : Rep 2 100000 (dPs ps) := by
  have m10 := g.m10
  have few := g.few
  have := Rep.list (n := 1) (w := 82) (ds := ps.map dP) (fun d hd => by
    obtain ⟨p, hp, rfl⟩ := List.mem_map.mp hd
    have := g.lt p hp
    exact rep_dP (by omega) (by omega))
  rw [List.length_map] at this
  exact this.mono (Nat.le_refl _) (by omega)
theorem rep_row {m : Nat} {ps : PS} (g : Good m ps) (i : Nat) : Rep 1 100000 (dN (rowOf ps i)) := by
  have few : (rowOf ps i).length ≤ 1000 := Nat.le_trans (List.length_filterMap_le ..) g.few
  have m10 := g.m10
  exact (rep_dN fun n hn => by have := rowOf_lt g hn; omega).mono (Nat.le_refl _) (by omega)
theorem rep_slots {m : Nat} (ps : PS) (h : m ≤ 10) : Rep 1 100000 (dN (slotsUpto ps m)) := by
  have e := slots_len ps m
  refine (rep_dN fun n hn => ?_).mono (Nat.le_refl _) (by omega)
  obtain ⟨i, hi, rfl⟩ := List.mem_iff_getElem.mp hn
  have him : i < m := by omega
  have h1 := slots_at ps him
  rw [List.getElem?_eq_getElem hi] at h1
  have h0 := Option.some.inj h1
  have h2 := least_le (lesser ps i)
  have h3 := lesser_len ps i
  omega
/-! alike: equal, and written alike -/
def spAlike (K : PySem.W.Frag) : Sp := fun vs H Q _ => ∃ u v d, vs = [u, v] ∧ Dp K H u d ∧ Dp K H v d ∧ Rep 60 1000000 d ∧ RetV (.bl true) H Q
section
variable {K : PySem.W.Frag} {σ : L2.St} {H : Hp} {te : TE} {xs : List V} {D : Ends}
theorem ev_repr {u : V} {d : PyData} (h : Ev te σ H u) (hd : Dp K H u d) (r : Rep 60 1000000 d) : Ev (tCB (rRepr K) (tCons te tNil)) σ H (.str d.shown) := ev_cb (ea_cons h ea_nil) fun H2 e2 Q q => ⟨u, d, rfl, dp_ex e2 _ _ hd, r.ok, PyData.hasDict_of_canLay d r.sh.can, r.sh.dep, r.size, q H2 (Ex.refl _)⟩
theorem rv_eqD {u v : V} {d : PyData} {n w : Nat} (hu : Dp K H u d) (hv : Dp K H v d) (r : Rep n w d) (hn : n ≤ 64) : RV (rEqD K) u v H (.bl true) := rv_val fun H2 e2 Q k => ⟨d, d, dp_ex e2 _ _ hu, dp_ex e2 _ _ hv, r.sh.shaped hn, r.sh.shaped hn, by rw [r.eqv]; exact k⟩
theorem rv_neD {u v : V} {d : PyData} {n w : Nat} (hu : Dp K H u d) (hv : Dp K H v d) (r : Rep n w d) (hn : n ≤ 64) : RV (rNeD K) u v H (.bl false) := rv_val fun H2 e2 Q k => ⟨d, d, dp_ex e2 _ _ hu, dp_ex e2 _ _ hv, r.sh.shaped hn, r.sh.shaped hn, by rw [r.eqv]; exact k⟩
end
section
variable {σ : L2.St} {H : Hp} {te tu : TE} {xs ys : List V} {v : V} {D : Ends}
theorem s_retLL (h : EvL te σ H xs) (h2 : EvL tu σ H ys) (k : ∀ l l2 p H1, H l = none → H l2 = none → H p = none → Ex H H1 → H1 l = some (.lst xs) → H1 l2 = some (.lst ys) → H1 p = some (.tup [.ref l, .ref l2]) → D.rt (.ref p) H1) : tRet (tTup (tCons te (tCons tu tNil))) D σ H :=
  h H (Ex.refl H) _ fun l H1 l0 e1 hl => h2 H1 e1 _ fun l2 H2 l20 e2 hl2 => ⟨by show 2 ≤ sizeLine; decide, fun p hp => k l l2 p _ l0 (fresh_back e1 l20) (fresh_back (e1.trans e2) hp) ((e1.trans e2).trans (Ex.new hp)) (Ex.new hp _ _ (e2 _ _ hl)) (Ex.new hp _ _ hl2) upd_same⟩
theorem s_retLV (h : EvL te σ H xs) (h2 : Ev tu σ H v) (k : ∀ l p H1, H l = none → H p = none → Ex H H1 → H1 l = some (.lst xs) → H1 p = some (.tup [.ref l, v]) → D.rt (.ref p) H1) : tRet (tTup (tCons te (tCons tu tNil))) D σ H :=
  h H (Ex.refl H) _ fun l H1 l0 e1 hl => h2 H1 e1 _ fun H2 e2 => ⟨by show 2 ≤ sizeLine; decide, fun p hp => k l p _ l0 (fresh_back (e1.trans e2) hp) ((e1.trans e2).trans (Ex.new hp)) (Ex.new hp _ _ (e2 _ _ hl)) upd_same⟩
end
/-! two lists hidden: the bag and one more -/
def M2 (b : Addr × Addr) (q : Addr) (H : Hp) : Hp := mask q (mask b.1 H)
theorem M2.le (b : Addr × Addr) (q : Addr) (H : Hp) : Ex (M2 b q H) (mask b.1 H) := mask_le _ _
theorem M2.step {b : Addr × Addr} {q : Addr} {H H' : Hp} (s : Step b H H') : Ex (M2 b q H) (M2 b q H') := mask_ex s.2
theorem M2.put {b : Addr × Addr} {q : Addr} {H : Hp} {o : HO} : M2 b q (L2.upd H q o) = M2 b q H := by
  funext a
  unfold M2
  by_cases e : a = q
  · rw [e, mask_self, mask_self]
  · rw [mask_at e, mask_at e]
    by_cases e2 : a = b.1
    · rw [e2, mask_self, mask_self]
    · rw [mask_at e2, mask_at e2, upd_ne e]
theorem M2.at {b : Addr × Addr} {q a : Addr} {H : Hp} (h1 : a ≠ b.1) (h2 : a ≠ q) : M2 b q H a = H a := (mask_at h2).trans (mask_at h1)
theorem PairsIn.mask1 {H : Hp} {p : Addr} {us ws : List V} {ps : PS} (h : PairsIn H ws ps) (hp : H p = some (.lst us)) : PairsIn (Lf.mask p H) ws ps := ⟨h.1, fun i x hx => let ⟨t, h1, h2⟩ := h.2 i x hx; ⟨t, h1, by rw [mask_at (ne_of h2 hp (by intro z; cases z))]; exact h2⟩⟩
theorem WebNew.mask1 {C : Addr} {H0 H : Hp} {x : Addr} {m : Nat} {ps : PS} {p : Addr} {us : List V} (h : WebNew C H0 H x m ps) (hp0 : H0 p ≠ none) (hp : H p = some (.lst us)) : WebNew C H0 (Lf.mask p H) x m ps := by
  obtain ⟨g, dx, a1, a2, ws1, ws2, h1, h2, h3, h4, h5, f0, f1, f2, fr⟩ := h
  have ne : ∀ {a : Addr}, H0 a = none → a ≠ p := fun h e => hp0 (e ▸ h)
  exact ⟨g, dx, a1, a2, ws1, ws2, by rw [mask_at (ne f0)]; exact h1, by rw [mask_at (ne f1)]; exact h2, by rw [mask_at (ne f2)]; exact h3, h4.mask1 hp, h5.mask hp0 fr, f0, f1, f2, fr⟩
theorem bag_none {H : Hp} {b : Addr × Addr} (h : Bag H b) : H b.1 ≠ none := by
  obtain ⟨xs, q⟩ := bag_lst h
  rw [q]
  exact fun z => nomatch z
theorem M2.web {K : PySem.W.Frag} {C : Addr} {H0 H : Hp} {x q : Addr} {m : Nat} {ps : PS} {b : Addr × Addr} {us : List V} (h : WebNew C H0 H x m ps) (hb0 : Bag H0 b) (hb : Bag H b) (hq0 : H0 q ≠ none) (hq : H q = some (.lst us)) (nq : q ≠ b.1) : WebAt K C (M2 b q H) x m ps := by
  obtain ⟨xs, q1⟩ := bag_lst hb
  exact ((h.mask1 (bag_none hb0) q1).mask1 hq0 (us := us) (by rw [mask_at nq]; exact hq)).at
theorem M2.pairs {K : PySem.W.Frag} {H : Hp} {q a : Addr} {ws us : List V} {ps : PS} {b : Addr × Addr} (h : PairsIn H ws ps) (hb : Bag H b) (hq : H q = some (.lst us)) (nq : q ≠ b.1) (ha : H a = some (.lst ws)) (n1 : a ≠ b.1) (n2 : a ≠ q) : Dp K (M2 b q H) (.ref a) (dPs ps) := by
  obtain ⟨xs, q1⟩ := bag_lst hb
  exact ((h.mask1 q1).mask1 (us := us) (by rw [mask_at nq]; exact hq)).dp (sq_of ((M2.at n1 n2).trans ha))
theorem M2.rows {K : PySem.W.Frag} {H0 H : Hp} {q a : Addr} {ws : List V} {rows : List (List Nat)} {b : Addr × Addr} (h : RowsIn H ws rows) (hf : ∀ (i : Nat) (t : Addr), ws[i]? = some (.ref t) → H0 t = none) (hb : H0 b.1 ≠ none) (hq : H0 q ≠ none) (ha : H a = some (.lst ws)) (n1 : a ≠ b.1) (n2 : a ≠ q) : Dp K (M2 b q H) (.ref a) (dNs rows) :=
  .lst (sq_of ((M2.at n1 n2).trans ha)) ((h.mask hb hf).mask hq hf).dps
theorem Bag_upd {H : Hp} {b : Addr × Addr} {q : Addr} {o : HO} (h : Bag H b) (n1 : q ≠ b.1) (n2 : q ≠ b.2) : Bag (L2.upd H q o) b := by
  obtain ⟨x, y, z, ns, h1, h2, r⟩ := h
  exact ⟨x, y, z, ns, by rw [upd_ne n1.symm]; exact h1, by rw [upd_ne n2.symm]; exact h2, r⟩
theorem WebNew.ex {C : Addr} {H0 H H' : Hp} {x : Addr} {m : Nat} {ps : PS} (h : WebNew C H0 H x m ps) (e : Ex H H') : WebNew C H0 H' x m ps := by
  obtain ⟨g, dx, a1, a2, ws1, ws2, h1, h2, h3, h4, h5, f0, f1, f2, fr⟩ := h
  exact ⟨g, dx, a1, a2, ws1, ws2, e _ _ h1, e _ _ h2, e _ _ h3, h4.ex e, h5.ex e, f0, f1, f2, fr⟩
theorem WebNew.put {C : Addr} {H0 H : Hp} {x : Addr} {m : Nat} {ps : PS} {p : Addr} {us vs : List V} (h : WebNew C H0 H x m ps) (hp0 : H0 p ≠ none) (hp : H p = some (.lst us)) : WebNew C H0 (L2.upd H p (.lst vs)) x m ps := by
  obtain ⟨g, dx, a1, a2, ws1, ws2, h1, h2, h3, h4, h5, f0, f1, f2, fr⟩ := h
  have ne : ∀ {a : Addr}, H0 a = none → a ≠ p := fun h e => hp0 (e ▸ h)
  exact ⟨g, dx, a1, a2, ws1, ws2, by rw [upd_ne (ne f0)]; exact h1, by rw [upd_ne (ne f1)]; exact h2, by rw [upd_ne (ne f2)]; exact h3, h4.upd hp, h5.updD fun j hj => ne (fr j p hj) rfl, f0, f1, f2, fr⟩
theorem first_free {m : Nat} {b : List Nat} (h : least b < m) : ((List.range m).filter fun n => !decide (n ∈ b))[0]? = some (least b) := by
  rw [← List.head?_eq_getElem?, List.head?_filter, List.find?_range_eq_some]
  refine ⟨by rw [decide_eq_false (least_not b)]; rfl, List.mem_range.mpr h, fun j hj => ?_⟩
  rw [decide_eq_true (least_in b j hj)]
  rfl
end Wm
end
section
set_option Elab.async false
set_option linter.all false
set_option maxRecDepth 100000
set_option maxHeartbeats 4000000
/-! the mathematics of distances: which places come to be reached, step by step -/
namespace Wm
open PySem PySem.Spec PyProof.Rows L2 Lf
open Evl
def rch (ps : PS) (al : List Nat) : Nat → Nat → Bool
  | 0, p => decide (p = 0)
  | k + 1, p => decide (p ∈ al) && (rowOf ps p).any fun q => rch ps al k q
def dist (ps : PS) (al : List Nat) (s p : Nat) : Option Nat := (List.range s).find? fun k => rch ps al k p
def edgeAt (ps : PS) (al : List Nat) : Nat → List Nat
  | 0 => [0]
  | s + 1 => al.filter fun p => (dist ps al (s + 1) p).isNone && (rowOf ps p).any fun x => decide (x ∈ edgeAt ps al s)
def far (m : Nat) (ps : PS) (al : List Nat) (p : Nat) : Option Nat := dist ps al m p
section
variable {ps : PS} {al : List Nat}
theorem rch_succ {k p : Nat} : rch ps al (k + 1) p = true ↔ p ∈ al ∧ ∃ q, q ∈ rowOf ps p ∧ rch ps al k q = true := by
  show (decide (p ∈ al) && (rowOf ps p).any fun q => rch ps al k q) = true ↔ _
  rw [Bool.and_eq_true, decide_eq_true_eq, List.any_eq_true]
theorem dist_none {s p : Nat} : dist ps al s p = none ↔ ∀ k, k < s → rch ps al k p = false := by
  unfold dist
  rw [List.find?_eq_none]
  constructor
  · intro h k hk
    have := h k (List.mem_range.mpr hk)
    simpa using this
  · intro h k hk
    rw [h k (List.mem_range.mp hk)]
    decide
theorem dist_some {s p k : Nat} : dist ps al s p = some k ↔ k < s ∧ rch ps al k p = true ∧ ∀ j, j < k → rch ps al j p = false := by
  unfold dist
  rw [List.find?_range_eq_some]
  constructor
  · rintro ⟨h1, h2, h3⟩
    exact ⟨List.mem_range.mp h2, h1, fun j hj => by simpa using h3 j hj⟩
  · rintro ⟨h1, h2, h3⟩
    exact ⟨h2, List.mem_range.mpr h1, fun j hj => by rw [h3 j hj]; decide⟩
theorem mem_edge : ∀ {s p : Nat}, p ∈ edgeAt ps al s ↔ rch ps al s p = true ∧ dist ps al s p = none
  | 0, p => by
    show p ∈ [0] ↔ decide (p = 0) = true ∧ _
    rw [List.mem_singleton, decide_eq_true_eq]
    exact ⟨fun h => ⟨h, rfl⟩, fun h => h.1⟩
  | s + 1, p => by
    show p ∈ al.filter _ ↔ _
    rw [List.mem_filter, Bool.and_eq_true, List.any_eq_true, rch_succ]
    constructor
    · rintro ⟨h1, h2, q, h3, h4⟩
      have h4 := mem_edge.mp (of_decide_eq_true h4)
      exact ⟨⟨h1, q, h3, h4.1⟩, Option.isNone_iff_eq_none.mp h2⟩
    · rintro ⟨⟨h1, q, h3, h4⟩, h2⟩
      refine ⟨h1, Option.isNone_iff_eq_none.mpr h2, q, h3, decide_eq_true (mem_edge.mpr ⟨h4, dist_none.mpr fun j hj => ?_⟩)⟩
      have h5 := dist_none.mp h2 (j + 1) (by omega)
      cases h6 : rch ps al j q with
      | false => rfl
      | true =>
        rw [rch_succ.mpr ⟨h1, q, h3, h6⟩] at h5
        cases h5
theorem dist_succ {s p : Nat} : dist ps al (s + 1) p = if p ∈ edgeAt ps al s then some s else dist ps al s p := by
  by_cases h : p ∈ edgeAt ps al s
  · rw [if_pos h]
    have h1 := mem_edge.mp h
    exact dist_some.mpr ⟨by omega, h1.1, fun j hj => dist_none.mp h1.2 j hj⟩
  · rw [if_neg h]
    cases h1 : dist ps al s p with
    | some k =>
      have h2 := dist_some.mp h1
      exact dist_some.mpr ⟨by omega, h2.2⟩
    | none =>
      refine dist_none.mpr fun k hk => ?_
      by_cases e : k = s
      · subst e
        cases h2 : rch ps al k p with
        | false => rfl
        | true => exact absurd (mem_edge.mpr ⟨h2, h1⟩) h
      · exact dist_none.mp h1 k (by omega)
theorem stop_all {s : Nat} (h : edgeAt ps al s = []) : ∀ {k p : Nat}, rch ps al k p = true → dist ps al s p ≠ none := by
  have no : ∀ p, rch ps al s p = true → dist ps al s p ≠ none := fun p h1 h2 => by
    have := mem_edge.mpr ⟨h1, h2⟩
    rw [h] at this
    cases this
  intro k
  induction k with
  | zero =>
    intro p h1 h2
    by_cases e : s = 0
    · subst e
      exact no p h1 h2
    · rw [dist_none.mp h2 0 (by omega)] at h1
      cases h1
  | succ k ih =>
    intro p h1 h2
    obtain ⟨h3, q, h4, h5⟩ := rch_succ.mp h1
    cases h6 : dist ps al s q with
    | none => exact ih h5 h6
    | some j =>
      have h7 := dist_some.mp h6
      have h8 : rch ps al (j + 1) p = true := rch_succ.mpr ⟨h3, q, h4, h7.2.1⟩
      by_cases e : j + 1 = s
      · exact no p (e ▸ h8) h2
      · rw [dist_none.mp h2 (j + 1) (by omega)] at h8
        cases h8
theorem stop_same {s t : Nat} (h : edgeAt ps al s = []) (hst : s ≤ t) (p : Nat) : dist ps al t p = dist ps al s p := by
  cases h1 : dist ps al s p with
  | some k =>
    have h2 := dist_some.mp h1
    exact dist_some.mpr ⟨by omega, h2.2⟩
  | none =>
    refine dist_none.mpr fun k _ => ?_
    cases h2 : rch ps al k p with
    | false => rfl
    | true => exact absurd h1 (stop_all h h2)
theorem count_lt {p q : Nat → Bool} : ∀ {l : List Nat}, (∀ x ∈ l, p x = true → q x = true) → (∃ x ∈ l, q x = true ∧ p x = false) → l.countP p < l.countP q
  | [], _, h => by
    obtain ⟨x, hx, _⟩ := h
    cases hx
  | a :: l, h, h2 => by
    have le : l.countP p ≤ l.countP q := List.countP_mono_left fun x hx => h x (List.mem_cons_of_mem _ hx)
    rw [List.countP_cons, List.countP_cons]
    obtain ⟨x, hx, h3, h4⟩ := h2
    rcases List.mem_cons.mp hx with rfl | hx
    · rw [h3, h4]
      simp
      omega
    · have lt : l.countP p < l.countP q := count_lt (fun x hx => h x (List.mem_cons_of_mem _ hx)) ⟨x, hx, h3, h4⟩
      have := h a List.mem_cons_self
      cases hp : p a with
      | false =>
        rw [if_neg Bool.false_ne_true]
        omega
      | true =>
        rw [this hp]
        simp
        omega
theorem edge_lt {m : Nat} (h0 : 0 < m) (ha : ∀ p ∈ al, p < m) : ∀ {s p : Nat}, p ∈ edgeAt ps al s → p < m
  | 0, p, h => by
    rw [List.mem_singleton.mp h]
    exact h0
  | s + 1, p, h => ha p (List.mem_filter.mp h).1
theorem steps_le {m : Nat} (h0 : 0 < m) (ha : ∀ p ∈ al, p < m) : ∀ s, (∀ j, j < s → edgeAt ps al j ≠ []) → s + (List.range m).countP (fun p => (dist ps al s p).isNone) ≤ m
  | 0, _ => by
    have := List.countP_le_length (p := fun p => (dist ps al 0 p).isNone) (l := List.range m)
    rw [List.length_range] at this
    omega
  | s + 1, h => by
    have ih := steps_le h0 ha s fun j hj => h j (by omega)
    have lt : (List.range m).countP (fun p => (dist ps al (s + 1) p).isNone) < (List.range m).countP (fun p => (dist ps al s p).isNone) := by
      refine count_lt (fun x _ hx => ?_) ?_
      · have h1 := dist_none.mp (Option.isNone_iff_eq_none.mp hx)
        exact Option.isNone_iff_eq_none.mpr (dist_none.mpr fun k hk => h1 k (by omega))
      · obtain ⟨p, hp⟩ := List.exists_mem_of_ne_nil _ (h s (Nat.lt_succ_self s))
        refine ⟨p, List.mem_range.mpr (edge_lt h0 ha hp), Option.isNone_iff_eq_none.mpr (mem_edge.mp hp).2, ?_⟩
        rw [dist_succ, if_pos hp]
        rfl
    omega
theorem stops {m : Nat} (h0 : 0 < m) (ha : ∀ p ∈ al, p < m) : ∃ s, s ≤ m ∧ edgeAt ps al s = [] := by
  refine Classical.byContradiction fun h => ?_
  have := steps_le (ps := ps) h0 ha (m + 1) fun j hj e => h ⟨j, by omega, e⟩
  omega
theorem far_none {m p : Nat} (h0 : 0 < m) (ha : ∀ p ∈ al, p < m) : far m ps al p = none ↔ ∀ k, rch ps al k p = false := by
  obtain ⟨s, hs, he⟩ := stops (ps := ps) h0 ha
  unfold far
  rw [stop_same he hs]
  constructor
  · intro h k
    cases h1 : rch ps al k p with
    | false => rfl
    | true => exact absurd h (stop_all he h1)
  · intro h
    exact dist_none.mpr fun k _ => h k
theorem far_some {m p k : Nat} (h0 : 0 < m) (ha : ∀ p ∈ al, p < m) : far m ps al p = some k ↔ rch ps al k p = true ∧ ∀ j, j < k → rch ps al j p = false := by
  obtain ⟨s, hs, he⟩ := stops (ps := ps) h0 ha
  constructor
  · intro h
    exact (dist_some.mp h).2
  · rintro ⟨h1, h2⟩
    cases h3 : far m ps al p with
    | none =>
      rw [(far_none h0 ha).mp h3 k] at h1
      cases h1
    | some j =>
      have h4 := (dist_some.mp h3).2
      by_cases e : j < k
      · rw [h2 j e] at h4
        cases h4.1
      · by_cases e2 : k < j
        · rw [h4.2 k e2] at h1
          cases h1
        · rw [show j = k by omega]
end
/-! fewer pairs -/
def SubP (ps qs : PS) : Prop := ∀ p ∈ ps, p ∈ qs
theorem mem_row {ps : PS} {i n : Nat} : n ∈ rowOf ps i ↔ ∃ p ∈ ps, (p.1 = i ∧ n = p.2) ∨ (p.1 ≠ i ∧ p.2 = i ∧ n = p.1) := by
  unfold rowOf
  rw [List.mem_filterMap]
  constructor
  · rintro ⟨p, hp, h⟩
    refine ⟨p, hp, ?_⟩
    by_cases e : p.1 = i
    · rw [if_pos e] at h
      exact .inl ⟨e, (Option.some.inj h).symm⟩
    · rw [if_neg e] at h
      by_cases e2 : p.2 = i
      · rw [if_pos e2] at h
        exact .inr ⟨e, e2, (Option.some.inj h).symm⟩
      · rw [if_neg e2] at h
        cases h
  · rintro ⟨p, hp, ⟨e, rfl⟩ | ⟨e, e2, rfl⟩⟩
    · exact ⟨p, hp, if_pos e⟩
    · exact ⟨p, hp, by rw [if_neg e, if_pos e2]⟩
theorem row_sub {ps qs : PS} (h : SubP ps qs) {i n : Nat} (hn : n ∈ rowOf ps i) : n ∈ rowOf qs i := by
  obtain ⟨p, hp, r⟩ := mem_row.mp hn
  exact mem_row.mpr ⟨p, h p hp, r⟩
theorem clash_sub {ps qs : PS} (h : SubP ps qs) {i j : Nat} (hc : clash ps i j = true) : clash qs i j = true := by
  unfold clash adj touch at *
  rw [Bool.and_eq_true, Bool.or_eq_true, decide_eq_true_eq, List.any_eq_true] at *
  obtain ⟨h1, h2⟩ := hc
  refine ⟨h1, h2.imp (row_sub h) ?_⟩
  rintro ⟨x, hx, hy⟩
  exact ⟨x, row_sub h hx, decide_eq_true (row_sub h (of_decide_eq_true hy))⟩
theorem rch_sub {ps qs : PS} {al : List Nat} (h : SubP ps qs) : ∀ {k p : Nat}, rch ps al k p = true → rch qs al k p = true
  | 0, p, h1 => h1
  | k + 1, p, h1 => by
    obtain ⟨h2, q, h3, h4⟩ := rch_succ.mp h1
    exact rch_succ.mpr ⟨h2, q, row_sub h h3, rch_sub h h4⟩
theorem far_sub {ps qs : PS} {al : List Nat} {m p : Nat} (h0 : 0 < m) (ha : ∀ p ∈ al, p < m) (h : SubP ps qs) : (far m ps al p = none ∨ ∃ k j, far m ps al p = some k ∧ far m qs al p = some j ∧ j ≤ k) := by
  cases h1 : far m ps al p with
  | none => exact .inl rfl
  | some k =>
    have h2 := ((far_some h0 ha).mp h1).1
    have h3 := rch_sub h h2
    cases h4 : far m qs al p with
    | none =>
      rw [(far_none h0 ha).mp h4 k] at h3
      cases h3
    | some j =>
      refine .inr ⟨k, j, rfl, rfl, Nat.le_of_not_lt fun lt => ?_⟩
      rw [((far_some h0 ha).mp h4).2 k lt] at h3
      cases h3
end Wm
end
section
set_option Elab.async false
set_option linter.all false
set_option maxRecDepth 100000
set_option maxHeartbeats 4000000
namespace Lf
open PySem PySem.Spec PyProof.Rows L2
open Evl
def flat (ys : Nat → List V) (n : Nat) : List V := (List.range n).flatMap ys
theorem flat_succ (ys : Nat → List V) (n : Nat) : flat ys (n + 1) = flat ys n ++ ys n := by
  unfold flat
  rw [List.range_succ, List.flatMap_append, List.flatMap_singleton]
theorem flat_le (ys : Nat → List V) {c : Nat} (h : ∀ i, (ys i).length ≤ c) : ∀ n, (flat ys n).length ≤ n * c
  | 0 => Nat.zero_le _
  | n + 1 => by
    have h1 := flat_le ys h n
    have h2 := h n
    rw [flat_succ, List.length_append, Nat.succ_mul]
    omega
section
variable {K : PySem.W.Frag} {σ : L2.St} {H : Hp} {te : TE}
theorem el_lc2 {a : Addr} {xs : List V} {tl tl1 : TE} {j j1 c : Nat} {vs vs1 : List Nat} (ys : Nat → List V) (h : Ev tl σ H (.ref a)) (hx : SqL K H a xs) (hc : ∀ i, (ys i).length ≤ c) (hz : (xs.length + 1) * c ≤ 40000)
    (hw : ∀ x, wipe ((wipe σ vs).set j (some x)) vs = wipe σ vs) (hw1 : ∀ x y, wipe ((wipe ((wipe σ vs).set j (some x)) vs1).set j1 (some y)) vs1 = wipe ((wipe σ vs).set j (some x)) vs1)
    (h1 : ∀ (i : Nat) (x : V) H1, Ex H H1 → xs[i]? = some x → EvL tl1 ((wipe σ vs).set j (some x)) H1 (ys i))
    (he : ∀ (i : Nat) (x y : V) H1, Ex H H1 → xs[i]? = some x → y ∈ ys i → Ev te ((wipe ((wipe σ vs).set j (some x)) vs1).set j1 (some y)) H1 y) :
    EvL (tLc2 (iList K tl) (gName j) tYes (iList K tl1) (gName j1) tYes te vs vs1) σ H (flat ys xs.length) := by
  intro H0 e Q q
  refine h H0 e _ fun H1 e1 => ⟨a, rfl, ⟨xs, ex_l (e.trans e1) hx⟩, fun D hD => ?_⟩
  refine ⟨fun i m H' => m = xs.length - i ∧ i ≤ xs.length ∧ Ex H1 H' ∧ H' D = some (.lst (flat ys i)), ⟨xs.length, by simp, Nat.zero_le _, Ex.new hD, upd_same⟩, ?_⟩
  rintro i m H' ⟨rfl, hi, p2, p3⟩
  have sx : SqL K H' a xs := ex_l ((e.trans e1).trans p2) hx
  by_cases hlt : i < xs.length
  · refine .inr ⟨⟨xs, xs[i], sx, by simp [hlt]⟩, fun H'' => Ex H1 H'' ∧ H'' D = some (.lst (flat ys (i + 1))), fun H'' p' => ⟨xs.length - (i + 1), by omega, rfl, hlt, p'⟩, fun x Hy y => ?_⟩
    obtain ⟨e2, y⟩ := y
    subst e2
    have hxi := y xs sx
    refine ⟨hw x, yes_ok _ (Ex.refl _) _ fun H3 e3 => ?_⟩
    rw [if_pos rfl]
    refine h1 i x H3 (((e.trans e1).trans p2).trans e3) hxi H3 (Ex.refl _) _ fun L H4 l0 e4 hl => ⟨L, rfl, ⟨_, sq_of hl⟩, ?_⟩
    have nDL : D ≠ L := fun z => by rw [← z, e3 _ _ p3] at l0; cases l0
    refine ⟨fun j' k H'' => k = (ys i).length - j' ∧ j' ≤ (ys i).length ∧ Ex H1 H'' ∧ H'' D = some (.lst (flat ys i ++ (ys i).take j')) ∧ H'' L = some (.lst (ys i)), ⟨(ys i).length, by simp, Nat.zero_le _, (p2.trans e3).trans e4, ?_, hl⟩, ?_⟩
    · rw [List.take_zero, List.append_nil]
      exact e4 _ _ (e3 _ _ p3)
    · rintro j' k H'' ⟨rfl, hj, q1, q2, q3⟩
      by_cases hlj : j' < (ys i).length
      · refine .inr ⟨⟨_, (ys i)[j'], sq_of q3, by simp [hlj]⟩, fun H5 => Ex H1 H5 ∧ H5 D = some (.lst (flat ys i ++ (ys i).take (j' + 1))) ∧ H5 L = some (.lst (ys i)), fun H5 p' => ⟨(ys i).length - (j' + 1), by omega, rfl, hlj, p'⟩, fun z Hz w => ?_⟩
        obtain ⟨e5, w⟩ := w
        subst e5
        have hz1 := w _ (sq_of q3)
        refine ⟨hw1 x z, yes_ok _ (Ex.refl _) _ fun H6 e6 => ?_⟩
        rw [if_pos rfl]
        refine he i x z H6 (((e.trans e1).trans q1).trans e6) hxi (List.mem_of_getElem? hz1) H6 (Ex.refl _) _ fun H7 e7 => ⟨_, e7 _ _ (e6 _ _ q2), ?_, Ex.mut ((q1.trans e6).trans e7) hD, ?_, ?_⟩
        · have l1 := flat_le ys hc i
          have l2 := hc i
          have l3 : i * c ≤ xs.length * c := Nat.mul_le_mul_right c hi
          rw [Nat.succ_mul] at hz
          refine sz_lt ?_
          rw [List.length_append, List.length_take]
          omega
        · rw [upd_same, List.append_assoc, List.take_add_one, hz1]
          rfl
        · rw [upd_ne nDL.symm]
          exact e7 _ _ (e6 _ _ q3)
      · have ej : j' = (ys i).length := by omega
        subst ej
        refine .inl ⟨⟨_, sq_of q3, Nat.le_refl _⟩, q1, ?_⟩
        rw [q2, List.take_length, flat_succ]
  · have ei : i = xs.length := by omega
    subst ei
    exact .inl ⟨⟨xs, sx, Nat.le_refl _⟩, q D _ (fresh_back e1 hD) (e1.trans p2) p3⟩
theorem et_tr {p : Addr} {xs : List V} (h : Ev te σ H (.ref p)) (hx : ∀ H1, Ex H H1 → SqL K H1 p xs) : EvT (tTr K te) σ H (!xs.isEmpty) := fun H1 e Q q => h H1 e _ fun H2 e2 => ⟨!xs.isEmpty, .inl ⟨xs, hx H2 (e.trans e2), rfl⟩, q H2 e2⟩
theorem flat_rep {v : V} : ∀ n : Nat, (List.replicate n [v]).flatten = List.replicate n v
  | 0 => rfl
  | n + 1 => by
    rw [List.replicate_succ, List.replicate_succ, List.flatten_cons, flat_rep n]
    rfl
theorem el_rep {tn : TE} {v : V} {n : Nat} (h : Ev te σ H v) (hn : Ev tn σ H (.int (n : Int))) (hz : n ≤ 40000) : EvL (tOp rRep (tLst (tCons te tNil)) tn) σ H (List.replicate n v) := fun H1 e Q q =>
  h H1 e _ fun H2 e2 => ⟨by show 1 ≤ sizeLine; decide, fun p hp => hn _ ((e.trans e2).trans (Ex.new hp)) _ fun H3 e3 => ⟨p, (n : Int), [v], rfl, rfl, e3 _ _ upd_same, by omega, by omega, by
    rw [Int.toNat_natCast]
    have : 40000 ≤ sizeLine := by decide
    show 1 * n ≤ sizeLine
    omega, fun p2 hp2 => q p2 _ (fresh_back e2 (fresh_back (Ex.new hp) (fresh_back e3 hp2))) (((e2.trans (Ex.new hp)).trans e3).trans (Ex.new hp2)) (by
    rw [upd_same, Int.toNat_natCast]
    rw [flat_rep])⟩⟩
end
end Lf
namespace Wm
open PySem PySem.Spec PyProof.Rows L2 Lf
open Evl
def oV : Option Nat → V
  | none => .non
  | some k => .int (k : Int)
def oD : Option Nat → PyData
  | none => .none
  | some k => .int (k : Int)
theorem oV_non (o : Option Nat) : decide (oV o = .non) = o.isNone := by
  cases o <;> rfl
def toldV (m : Nat) (ps : PS) (al : List Nat) (s : Nat) : List V := (List.range m).map fun x => oV (dist ps al s x)
def midV (m : Nat) (ps : PS) (al : List Nat) (s i : Nat) : List V := (List.range m).map fun x => oV (if x ∈ (edgeAt ps al s).take i then some s else dist ps al s x)
def farV (m : Nat) (ps : PS) (al : List Nat) : List V := (List.range m).map fun x => oV (far m ps al x)
section
variable {m : Nat} {ps : PS} {al : List Nat} {s : Nat}
theorem told_len : (toldV m ps al s).length = m := by
  unfold toldV
  rw [List.length_map, List.length_range]
theorem mid_len {i : Nat} : (midV m ps al s i).length = m := by
  unfold midV
  rw [List.length_map, List.length_range]
theorem far_len : (farV m ps al).length = m := by
  unfold farV
  rw [List.length_map, List.length_range]
theorem far_get {x : Nat} (h : x < m) : (farV m ps al)[x]? = some (oV (far m ps al x)) := by
  unfold farV
  rw [List.getElem?_map, List.getElem?_range h]
  rfl
theorem told_get {x : Nat} (h : x < m) : (toldV m ps al s)[x]? = some (oV (dist ps al s x)) := by
  unfold toldV
  rw [List.getElem?_map, List.getElem?_range h]
  rfl
theorem told_zero : toldV m ps al 0 = List.replicate m V.non := by
  unfold toldV
  refine List.ext_getElem? fun i => ?_
  by_cases h : i < m
  · rw [List.getElem?_map, List.getElem?_range h, List.getElem?_replicate, if_pos h]
    rfl
  · rw [List.getElem?_eq_none (by rw [List.length_map, List.length_range]; omega), List.getElem?_eq_none (by rw [List.length_replicate]; omega)]
theorem mid_zero : midV m ps al s 0 = toldV m ps al s := by
  unfold midV toldV
  refine List.map_congr_left fun x _ => ?_
  rw [List.take_zero, if_neg (fun h => nomatch h)]
theorem mid_all : midV m ps al s (edgeAt ps al s).length = toldV m ps al (s + 1) := by
  unfold midV toldV
  refine List.map_congr_left fun x _ => ?_
  rw [List.take_length, dist_succ]
theorem mid_step {i n : Nat} (hi : (edgeAt ps al s)[i]? = some n) (hn : n < m) : (midV m ps al s i).set n (.int (s : Int)) = midV m ps al s (i + 1) := by
  unfold midV
  rw [set_range _ _ _ _ hn]
  refine List.map_congr_left fun x _ => ?_
  rw [List.take_add_one, hi]
  by_cases e : n = x
  · subst e
    rw [if_pos rfl, if_pos (List.mem_append_right _ (by exact List.mem_singleton.mpr rfl))]
    rfl
  · rw [if_neg e]
    congr 1
    by_cases h : x ∈ (edgeAt ps al s).take i
    · rw [if_pos h, if_pos (List.mem_append_left _ h)]
    · rw [if_neg h, if_neg]
      intro h2
      rcases List.mem_append.mp h2 with h2 | h2
      · exact h h2
      · exact e (List.mem_singleton.mp h2).symm
theorem told_end (h : edgeAt ps al s = []) (hs : s ≤ m) : toldV m ps al s = farV m ps al := by
  unfold toldV farV
  refine List.map_congr_left fun x _ => ?_
  unfold far
  rw [stop_same h hs]
end
end Wm
namespace Wm
open PySem PySem.Spec PyProof.Rows L2 Lf
open Evl
def risesN (cs : List Nat) : Bool := ((List.range (cs.length - 1)).map fun i => decide (cs.getD i 0 < cs.getD (i + 1) 0)).all id
def cutHolds (ps : PS) (al cs : List Nat) : Bool := !((cs.any fun x => decide (x = 0) || !decide (x ∈ al)) || !risesN cs) && (cs.flatMap (rowOf ps)).all fun n => decide (n ∈ cs) || !decide (n ∈ al)
theorem flat_rows (ps : PS) (cs : List Nat) : flat (fun i => vN (rowOf ps (cs.getD i 0))) cs.length = vN (cs.flatMap (rowOf ps)) := by
  unfold flat vN
  rw [List.map_flatMap]
  have e : cs = (List.range cs.length).map fun i => cs.getD i 0 := by
    refine List.ext_getElem? fun i => ?_
    by_cases q : i < cs.length
    · rw [List.getElem?_map, List.getElem?_range q, List.getElem?_eq_getElem q]
      show _ = some (cs.getD i 0)
      rw [List.getD_eq_getElem?_getD, List.getElem?_eq_getElem q]
      rfl
    · rw [List.getElem?_eq_none (by omega), List.getElem?_eq_none (by rw [List.length_map, List.length_range]; omega)]
  conv => rhs; rw [e]
  rw [List.flatMap_map]
theorem all_getD {b : List Nat} (f : Nat → Bool) : b.all f = (List.range b.length).all fun j => f (b.getD j 0) := by
  have h := any_getD (b := b) fun x => !f x
  rw [List.all_eq_not_any_not, h, List.all_eq_not_any_not]
theorem rises_of {cs : List Nat} (h : cs.Pairwise (· < ·)) : risesN cs = true := by
  unfold risesN
  rw [List.all_map, List.all_eq_true]
  intro i hi
  have hi := List.mem_range.mp hi
  have h1 : i < cs.length := by omega
  have h2 : i + 1 < cs.length := by omega
  show decide (cs.getD i 0 < cs.getD (i + 1) 0) = true
  rw [List.getD_eq_getElem?_getD, List.getD_eq_getElem?_getD, List.getElem?_eq_getElem h1, List.getElem?_eq_getElem h2]
  exact decide_eq_true (List.pairwise_iff_getElem.mp h i (i + 1) h1 h2 (Nat.lt_succ_self i))
end Wm
end
section
set_option Elab.async false
set_option linter.all false
set_option maxRecDepth 100000
set_option maxHeartbeats 4000000
namespace Lf
open PySem PySem.Spec PyProof.Rows L2
open Evl
section
variable {K : PySem.W.Frag} {σ : L2.St} {H H' : Hp} {ta tb te tx : TE} {x y z v : V}
/-! arguments, some of which are new lists -/
def EvF (ta : TA) (σ : L2.St) (H : Hp) (P : List V → Hp → Prop) : Prop := ∀ H1, Ex H H1 → ∀ Q : List V → Hp → Prop, (∀ vs H2, Ex H1 H2 → P vs H2 → Q vs H2) → ta σ H1 Q
theorem ef_nil : EvF tNil σ H (fun vs _ => vs = []) := fun H1 e Q q => q [] H1 (Ex.refl H1) rfl
theorem ef_cons {tr : TA} {P : List V → Hp → Prop} (h : Ev te σ H x) (hr : EvF tr σ H P) : EvF (tCons te tr) σ H (fun vs H2 => ∃ us, vs = x :: us ∧ P us H2) := fun H1 e Q q =>
  h H1 e _ fun H2 e2 => hr H2 (e.trans e2) _ fun us H3 e3 p => q _ H3 (e2.trans e3) ⟨us, rfl, p⟩
theorem ef_consL {tr : TA} {xs : List V} {P : List V → Hp → Prop} (h : EvL te σ H xs) (hr : EvF tr σ H P) : EvF (tCons te tr) σ H (fun vs H2 => ∃ p us, vs = .ref p :: us ∧ H p = none ∧ H2 p = some (.lst xs) ∧ P us H2) := fun H1 e Q q =>
  h H1 e _ fun p H2 p0 e2 hp => hr H2 (e.trans e2) _ fun us H3 e3 pp => q _ H3 (e2.trans e3) ⟨p, us, rfl, fresh_back e p0, e3 _ _ hp, pp⟩
theorem ef_all {ta : TA} {vs : List V} (h : EvA ta σ H vs) : EvF ta σ H (fun us _ => us = vs) := fun H1 e Q q => h H1 e _ fun H2 e2 => q _ H2 e2 rfl
theorem ev_clF {sp : Sp} {P : List V → Hp → Prop} {E : XK} {ta : TA} (h : EvF ta σ H P) (hs : ∀ vs H1, Ex H H1 → P vs H1 → SV sp vs H1 z) : Ev (tCl sp E ta) σ H z := fun H1 e Q q =>
  h H1 e _ fun vs H2 e2 p => hs vs H2 (e.trans e2) p H2 (Ex.refl H2) Q (fun H3 e3 => q H3 (e2.trans e3)) E
theorem el_clF {sp : Sp} {P : List V → Hp → Prop} {xs : List V} {E : XK} {ta : TA} (h : EvF ta σ H P) (hs : ∀ vs H1, Ex H H1 → P vs H1 → SL sp vs H1 xs) : EvL (tCl sp E ta) σ H xs := fun H1 e Q q =>
  h H1 e _ fun vs H2 e2 p => hs vs H2 (e.trans e2) p H2 (Ex.refl H2) Q (fun r H3 hr e3 h3 => q r H3 (fresh_back e2 hr) (e2.trans e3) h3) E
theorem ev_mtF {C a dx : Addr} {m : Str} {fs : List (Str × V)} {sp : Sp} {P : List V → Hp → Prop} {E : XK} {tr : TA} (ho : Ev ta σ H (.ref a)) (hi : H a = some (.ins C dx fs)) (hm : fs.lookup m = none) (h : EvF tr σ H P) (hs : ∀ vs H1, Ex H H1 → P vs H1 → SV sp (.ref a :: vs) H1 z) : Ev (tMt C m sp E ta tr) σ H z := fun H1 e Q q =>
  ho H1 e _ fun H2 e2 => ⟨a, dx, fs, rfl, e2 _ _ (e _ _ hi), hm, h H2 (e.trans e2) _ fun vs H3 e3 p => hs vs H3 ((e.trans e2).trans e3) p H3 (Ex.refl H3) Q (fun H4 e4 => q H4 ((e2.trans e3).trans e4)) E⟩
theorem el_mtF {C a dx : Addr} {m : Str} {fs : List (Str × V)} {sp : Sp} {P : List V → Hp → Prop} {xs : List V} {E : XK} {tr : TA} (ho : Ev ta σ H (.ref a)) (hi : H a = some (.ins C dx fs)) (hm : fs.lookup m = none) (h : EvF tr σ H P) (hs : ∀ vs H1, Ex H H1 → P vs H1 → SL sp (.ref a :: vs) H1 xs) : EvL (tMt C m sp E ta tr) σ H xs := fun H1 e Q q =>
  ho H1 e _ fun H2 e2 => ⟨a, dx, fs, rfl, e2 _ _ (e _ _ hi), hm, h H2 (e.trans e2) _ fun vs H3 e3 p => hs vs H3 ((e.trans e2).trans e3) p H3 (Ex.refl H3) Q (fun r H4 hr e4 h4 => q r H4 (fresh_back e2 (fresh_back e3 hr)) ((e2.trans e3).trans e4) h4) E⟩
/-- list + list, both new -/
theorem el_cat {xs ys : List V} (h1 : EvL ta σ H xs) (h2 : EvL tb σ H ys) (hz : xs.length + ys.length ≤ sizeLine) : EvL (tOp rCat ta tb) σ H (xs ++ ys) := fun H1 e Q q =>
  h1 H1 e _ fun p H2 p0 e2 hp => h2 H2 (e.trans e2) _ fun r H3 r0 e3 hr => ⟨p, r, xs, ys, rfl, rfl, e3 _ _ hp, hr, hz, fun t ht => q t _ (fresh_back e2 (fresh_back e3 ht)) ((e2.trans e3).trans (Ex.new ht)) upd_same⟩
theorem ev_neLL {xs ys : List V} {d e : PyData} (h1 : EvL ta σ H xs) (h2 : EvL tb σ H ys) (hd : ∀ p H1, Ex H H1 → H1 p = some (.lst xs) → Dp K H1 (.ref p) d) (he : ∀ p H1, Ex H H1 → H1 p = some (.lst ys) → Dp K H1 (.ref p) e) (s1 : SeqAt.shaped d = true) (s2 : SeqAt.shaped e = true) : Ev (tOp (rNeD K) ta tb) σ H (.bl (!PyData.eqv d e)) :=
  ev_opLL h1 h2 fun p r H1 hp hr e1 => rv_val fun H2 e2 Q k => ⟨d, e, dp_ex e2 _ _ (hd p H1 e1 hp), dp_ex e2 _ _ (he r H1 e1 hr), s1, s2, k⟩
end
end Lf
namespace Wm
open PySem PySem.Spec PyProof.Rows L2 Lf
open Evl
theorem slots_hold_sub {m : Nat} {ps qs : PS} (hs : SubP qs ps) : slotsHold m qs ((slotsUpto ps m).map fun n : Nat => (n : Int)) = true := by
  have ok := slots_hold_ok (m := m) ps
  unfold slotsHold at *
  rw [Bool.and_eq_true, Bool.and_eq_true] at *
  refine ⟨ok.1, ok.2.1, ?_⟩
  have h := ok.2.2
  rw [List.all_eq_true] at *
  intro pl hpl
  have h1 := h pl hpl
  rw [Bool.not_eq_true', List.any_eq_false] at *
  intro l hl h2
  refine h1 l hl ?_
  rw [Bool.and_eq_true] at *
  exact ⟨h2.1, clash_sub hs h2.2⟩
def cutOf (m : Nat) (ps : PS) (al : List Nat) : List Nat := al.filter fun x => (far m ps al x).isNone
theorem cut_ok {m : Nat} {ps qs : PS} {al : List Nat} (m0 : 0 < m) (hal : ∀ x ∈ al, x < m) (hp : al.Pairwise (· < ·)) (hs : SubP qs ps) : cutHolds qs al (cutOf m ps al) = true := by
  unfold cutHolds
  have h1 : ((cutOf m ps al).any fun x => decide (x = 0) || !decide (x ∈ al)) = false := by
    rw [List.any_eq_false]
    intro x hx
    obtain ⟨h1, h2⟩ := List.mem_filter.mp hx
    have n0 : x ≠ 0 := by
      rintro rfl
      have := (far_none m0 hal).mp (Option.isNone_iff_eq_none.mp h2) 0
      cases this
    rw [decide_eq_false n0, decide_eq_true h1]
    decide
  have h2 : risesN (cutOf m ps al) = true := rises_of (hp.filter _)
  have h3 : (((cutOf m ps al).flatMap (rowOf qs)).all fun n => decide (n ∈ cutOf m ps al) || !decide (n ∈ al)) = true := by
    rw [List.all_eq_true]
    intro n hn
    obtain ⟨x, hx, hr⟩ := List.mem_flatMap.mp hn
    obtain ⟨h1, h2⟩ := List.mem_filter.mp hx
    by_cases hna : n ∈ al
    · have : n ∈ cutOf m ps al := by
        refine List.mem_filter.mpr ⟨hna, ?_⟩
        rw [Option.isNone_iff_eq_none, far_none m0 hal]
        intro k
        have h4 := (far_none m0 hal).mp (Option.isNone_iff_eq_none.mp h2) (k + 1)
        cases h5 : rch ps al k n with
        | false => rfl
        | true =>
          rw [rch_succ.mpr ⟨h1, n, row_sub hs hr, h5⟩] at h4
          cases h4
      rw [decide_eq_true this]
      rfl
    · rw [decide_eq_false hna]
      exact Bool.or_true _
  rw [h1, h2, h3]
  rfl
theorem cut_sub {m : Nat} {ps qs : PS} {al : List Nat} (m0 : 0 < m) (hal : ∀ x ∈ al, x < m) (hs : SubP qs ps) {x : Nat} (h : x ∈ cutOf m ps al) : x ∈ cutOf m qs al := by
  obtain ⟨h1, h2⟩ := List.mem_filter.mp h
  refine List.mem_filter.mpr ⟨h1, ?_⟩
  rw [Option.isNone_iff_eq_none] at *
  rcases far_sub (p := x) m0 hal hs with e | ⟨k, j, _, e, _⟩
  · exact e
  · rw [h2] at e
    cases e
/-! no pairs -/
theorem row_nil (i : Nat) : rowOf [] i = [] := rfl
theorem far_nil {m x : Nat} {al : List Nat} (m0 : 0 < m) (hal : ∀ x ∈ al, x < m) : far m [] al x = if x = 0 then some 0 else none := by
  by_cases e : x = 0
  · rw [if_pos e, far_some m0 hal]
    exact ⟨decide_eq_true e, fun j h => absurd h (Nat.not_lt_zero _)⟩
  · rw [if_neg e, far_none m0 hal]
    intro k
    cases k with
    | zero => exact decide_eq_false e
    | succ k =>
      cases h : rch [] al (k + 1) x with
      | false => rfl
      | true =>
        obtain ⟨_, q, h2, _⟩ := rch_succ.mp h
        cases h2
theorem clash_nil (i j : Nat) : clash [] i j = false := by
  unfold clash adj touch
  rw [row_nil]
  simp
theorem slots_nil : ∀ n, slotsUpto [] n = List.replicate n 0
  | 0 => rfl
  | n + 1 => by
    have h : lesser [] n = [] := by
      unfold lesser
      have : ((List.range n).filter fun l => clash [] l n) = [] := List.filter_eq_nil_iff.mpr fun l _ => by
        rw [clash_nil]
        decide
      rw [this]
      rfl
    rw [List.replicate_succ', ← slots_nil n]
    show slotsUpto [] n ++ [least (lesser [] n)] = _
    rw [h]
    rfl
def dFar (m : Nat) (ps : PS) (al : List Nat) : PyData := .list ((List.range m).map fun x => oD (far m ps al x))
theorem oV_dp {K : PySem.W.Frag} {H : Hp} (o : Option Nat) : Dp K H (oV o) (oD o) := by
  cases o with
  | none => exact .non
  | some k => exact .int _
theorem far_dps {K : PySem.W.Frag} {H : Hp} (m : Nat) (ps : PS) (al : List Nat) : DpAll K H (farV m ps al) ((List.range m).map fun x => oD (far m ps al x)) := by
  refine dps_of (by rw [far_len, List.length_map, List.length_range]) fun i v d hv hd => ?_
  by_cases h : i < m
  · rw [far_get h] at hv
    rw [List.getElem?_map, List.getElem?_range h] at hd
    cases hv
    cases hd
    exact oV_dp _
  · rw [List.getElem?_eq_none (by rw [far_len]; omega)] at hv
    cases hv
theorem rep_far {m : Nat} {ps : PS} {al : List Nat} (h : m ≤ 1000) : Rep 1 100000 (dFar m ps al) := by
  have := Rep.list (n := 0) (w := 40) (ds := (List.range m).map fun x => oD (far m ps al x)) (fun d hd => by
    obtain ⟨x, hx, rfl⟩ := List.mem_map.mp hd
    cases q : far m ps al x with
    | none => exact Rep.non.mono (Nat.le_refl _) (by decide)
    | some k =>
      have := (dist_some.mp q).1
      exact Rep.int (by show k < _; omega))
  rw [List.length_map, List.length_range] at this
  exact this.mono (Nat.le_refl _) (by omega)
end Wm
namespace Wm
open PySem PySem.Spec PyProof.Rows L2 Lf
theorem flat2 (o u : Option Nat) : [oV o, oV u].all flatV = true := by
  cases o <;> cases u <;> rfl
theorem inv_non1 (u : Option Nat) : (V.bl (!inV .non [V.non, oV u])) = V.bl false := by
  cases u <;> rfl
end Wm
namespace Lf
open PySem PySem.Spec PyProof.Rows L2
open Evl
theorem tany_gt {b : Addr × Addr} {σ : L2.St} {H : Hp} {many : Int} {i : Nat} (hb : Bag H b) (hi : σ[i]? = some (some (.ref b.1))) (hm : 0 < many ∧ many < 1073741824) :
    TAny (Step b) (tTest (tOp (rI0 fun i j => .bl (decide (j < i))) (tCl spTake E0 (tCons (tVar i) (tCons (tC (.int many)) tNil))) (tC (.int 0)))) σ H := fun Q q =>
  ⟨_, hi, b, many, rfl, hb, hm, fun v H' _ _ bg s => ⟨v, 0, rfl, rfl, _, rfl, q _ _ (.draw bg s)⟩⟩
end Lf
namespace Wm
open PySem PySem.Spec PyProof.Rows L2 Lf
open Evl
theorem eqv_dP (p q : Nat × Nat) : PyData.eqv (dP p) (dP q) = decide (p = q) := by
  obtain ⟨a, b⟩ := p
  obtain ⟨c, d⟩ := q
  unfold dP
  rw [Bool.eq_iff_iff, decide_eq_true_eq]
  simp only [PyData.eqv, PyData.eqvAll, Bool.and_eq_true, decide_eq_true_eq, beq_iff_eq, Prod.mk.injEq, Bool.and_true]
  omega
theorem Good.sub {m : Nat} {ps qs : PS} (g : Good m ps) (h : qs.Sublist ps) : Good m qs := ⟨g.m2, g.m10, fun p hp => g.lt p (h.subset hp), g.pw.sublist h, Nat.le_trans h.length_le g.few⟩
def pick (ps : PS) (f : Nat → Bool) : PS := ((List.range ps.length).filter f).map fun j => ps.getD j (0, 0)
theorem pick_sub (ps : PS) (f : Nat → Bool) : (pick ps f).Sublist ps := by
  have e : ps = (List.range ps.length).map fun j => ps.getD j (0, 0) := by
    refine List.ext_getElem? fun i => ?_
    by_cases q : i < ps.length
    · rw [List.getElem?_map, List.getElem?_range q, List.getElem?_eq_getElem q]
      show _ = some (ps.getD i (0, 0))
      rw [List.getD_eq_getElem?_getD, List.getElem?_eq_getElem q]
      rfl
    · rw [List.getElem?_eq_none (by omega), List.getElem?_eq_none (by rw [List.length_map, List.length_range]; omega)]
  have h : (pick ps f).Sublist ((List.range ps.length).map fun j => ps.getD j (0, 0)) := List.filter_sublist.map _
  rw [← e] at h
  exact h
theorem PairsIn.pick {H : Hp} {ws : List V} {ps : PS} (h : PairsIn H ws ps) (f : Nat → Bool) : PairsIn H (given ws.length f fun j => ws.getD j .non) (Wm.pick ps f) := by
  unfold given Wm.pick
  rw [h.1]
  refine ⟨by rw [List.length_map, List.length_map], fun i p hp => ?_⟩
  rw [List.getElem?_map] at hp ⊢
  cases q : ((List.range ps.length).filter f)[i]? with
  | none =>
    rw [q] at hp
    cases hp
  | some j =>
    rw [q] at hp
    have hj : j < ps.length := List.mem_range.mp (List.mem_filter.mp (List.mem_of_getElem? q)).1
    have hp : ps.getD j (0, 0) = p := Option.some.inj hp
    rw [List.getD_eq_getElem?_getD, List.getElem?_eq_getElem hj] at hp
    obtain ⟨t, h1, h2⟩ := h.2 j p (by rw [List.getElem?_eq_getElem hj]; exact congrArg some hp)
    refine ⟨t, ?_, h2⟩
    show some (ws.getD j .non) = _
    rw [List.getD_eq_getElem?_getD, h1]
    rfl
theorem PairsIn.erase {H : Hp} {ws : List V} {ps : PS} (h : PairsIn H ws ps) (k : Nat) : PairsIn H (ws.eraseIdx k) (ps.eraseIdx k) := by
  refine ⟨by rw [List.length_eraseIdx, List.length_eraseIdx, h.1], fun i p hp => ?_⟩
  rw [List.getElem?_eraseIdx] at hp ⊢
  split
  · rename_i lt
    rw [if_pos lt] at hp
    exact h.2 i p hp
  · rename_i lt
    rw [if_neg lt] at hp
    exact h.2 (i + 1) p hp
theorem WebNew.base {C : Addr} {H0 H1 H : Hp} {x : Addr} {m : Nat} {ps : PS} (h : WebNew C H1 H x m ps) (e : Ex H0 H1) : WebNew C H0 H x m ps := by
  obtain ⟨g, dx, a1, a2, ws1, ws2, h1, h2, h3, h4, h5, f0, f1, f2, fr⟩ := h
  exact ⟨g, dx, a1, a2, ws1, ws2, h1, h2, h3, h4, h5, fresh_back e f0, fresh_back e f1, fresh_back e f2, fun i t hi => fresh_back e (fr i t hi)⟩
theorem vN_zeros (m : Nat) : vN (slotsUpto [] m) = List.replicate m (V.int 0) := by
  unfold vN
  rw [slots_nil, List.map_replicate]
  rfl
theorem far_empty {m : Nat} {al : List Nat} (m0 : 0 < m) (hal : ∀ x ∈ al, x < m) : farV m [] al = [V.int 0] ++ List.replicate (m - 1) V.non := by
  unfold farV
  refine List.ext_getElem? fun i => ?_
  by_cases h : i < m
  · rw [List.getElem?_map, List.getElem?_range h]
    show some (oV (far m [] al i)) = _
    rw [far_nil m0 hal]
    cases i with
    | zero => rfl
    | succ i =>
      rw [if_neg (Nat.succ_ne_zero i)]
      show some V.non = (List.replicate (m - 1) V.non)[i]?
      rw [List.getElem?_replicate, if_pos (by omega)]
  · rw [List.getElem?_eq_none (by rw [List.length_map, List.length_range]; omega), List.getElem?_eq_none (by rw [List.length_append, List.length_replicate, List.length_singleton]; omega)]
end Wm
namespace Lf
open PySem PySem.Spec PyProof.Rows L2
open Evl
section
variable {K : PySem.W.Frag} {σ : L2.St} {H : Hp} {ta : TA} {te : TE} {x : V} {D : Ends} {tz : TS}
theorem ef_consF {tr : TA} {P R : List V → Hp → Prop} (h : EvF ta σ H P) (hz : ∀ vs H2, P vs H2 → vs.length ≤ 1000) (hr : EvF tr σ H R) : EvF (tCons (tLst ta) tr) σ H (fun vs H2 => ∃ p us xs H1, vs = .ref p :: us ∧ Ex H H1 ∧ P xs H1 ∧ Ex H1 H2 ∧ H2 p = some (.lst xs) ∧ R us H2) := fun H1 e Q q =>
  h H1 e _ fun xs H2 e2 p => ⟨Nat.le_trans (hz xs H2 p) (by decide), fun r hr0 => hr _ ((e.trans e2).trans (Ex.new hr0)) _ fun us H3 e3 pr => q _ H3 ((e2.trans (Ex.new hr0)).trans e3) ⟨r, us, xs, H2, rfl, e.trans e2, p, (Ex.new hr0).trans e3, e3 _ _ upd_same, pr⟩⟩
theorem q_asgF {i : Nat} {P : List V → Hp → Prop} (h : EvF ta σ H P) (hz : ∀ vs H2, P vs H2 → vs.length ≤ 1000) (k : ∀ p vs H2, Ex H H2 → P vs H2 → H2 p = none → tz D (σ.set i (some (.ref p))) (upd H2 p (.lst vs))) : tSeq (tAsg (tLst ta) (gName i)) tz D σ H :=
  h H (Ex.refl H) _ fun vs H2 e2 p => ⟨Nat.le_trans (hz vs H2 p) (by decide), fun r hr => k r vs H2 e2 p hr⟩
end
end Lf
namespace Lf
open PySem PySem.Spec PyProof.Rows L2 Wm
open Evl
section
variable {K : PySem.W.Frag} {σ : L2.St} {H : Hp} {ta tb : TE} {tl : TA}
theorem ef_mono {P R : List V → Hp → Prop} (h : EvF tl σ H P) (hp : ∀ vs H1, Ex H H1 → P vs H1 → R vs H1) : EvF tl σ H R := fun H1 e Q q => h H1 e _ fun vs H2 e2 p => q vs H2 e2 (hp vs H2 (e.trans e2) p)
theorem ev_neS {xs : List V} {ds : List PyData} {n w : Nat} (h1 : EvL ta σ H xs) (h2 : EvL tb σ H xs) (hd : ∀ H1, Ex H H1 → DpAll K H1 xs ds) (r : Rep n w (.list ds)) (hn : n ≤ 64) : Ev (tOp (rNeD K) ta tb) σ H (.bl false) := by
  have h := ev_neLL (K := K) (d := .list ds) (e := .list ds) h1 h2 (fun p H1 e hp => .lst (sq_of hp) (hd H1 e)) (fun p H1 e hp => .lst (sq_of hp) (hd H1 e)) (r.sh.shaped hn) (r.sh.shaped hn)
  rw [r.eqv] at h
  exact h
end
end Lf
namespace Wm
open PySem PySem.Spec PyProof.Rows L2 Lf
open Evl
theorem M2.up {b : Addr × Addr} {q : Addr} {H H' : Hp} (s : Step b H H') (hq : H q = none) : Ex (mask b.1 H) (M2 b q H') := fun c o h => by
  have n : c ≠ q := by
    rintro rfl
    have h1 := mask_le _ _ _ _ h
    rw [hq] at h1
    cases h1
  exact (mask_at n).trans (s.2 _ _ h)
theorem seq_nat {j n : Nat} (h : j < n) : seqIndex? (j : Int) n = some j := by
  have := PySem.StrLaws.seqIndex_nonneg (i := (j : Int)) (n := n) (by omega) (by omega)
  rw [this]
  rfl
end Wm
end
section
set_option Elab.async false
set_option linter.all false
set_option maxRecDepth 100000
set_option maxHeartbeats 4000000
/-! who is reached, fair distances, roads, closed sets: what k15 says of a web -/
namespace Wm
open PySem PySem.Spec PyProof.Rows L2 Lf
open Evl
section
variable {m : Nat} {ps : PS} {al : List Nat}
/-- one round: those of al that are in s, or hear one of s -/
def spread (ps : PS) (al : List Nat) (s : List Nat) : List Nat := al.filter fun p => decide (p ∈ s) || (rowOf ps p).any fun q => decide (q ∈ s)
def spreads (ps : PS) (al : List Nat) (s : List Nat) : Nat → List Nat
  | 0 => s
  | k + 1 => spread ps al (spreads ps al s k)
theorem mem_spread {s : List Nat} {p : Nat} : p ∈ spread ps al s ↔ p ∈ al ∧ (p ∈ s ∨ ∃ q, q ∈ rowOf ps p ∧ q ∈ s) := by
  unfold spread
  rw [List.mem_filter, Bool.or_eq_true, decide_eq_true_eq, List.any_eq_true]
  refine and_congr_right fun _ => or_congr_right ⟨?_, ?_⟩
  · rintro ⟨q, h1, h2⟩
    exact ⟨q, h1, of_decide_eq_true h2⟩
  · rintro ⟨q, h1, h2⟩
    exact ⟨q, h1, decide_eq_true h2⟩
theorem reach_iff (h0 : 0 ∈ al) : ∀ {k p : Nat}, p ∈ spreads ps al [0] k ↔ ∃ j, j ≤ k ∧ rch ps al j p = true
  | 0, p => by
    show p ∈ [0] ↔ _
    rw [List.mem_singleton]
    constructor
    · rintro rfl
      exact ⟨0, Nat.le_refl _, rfl⟩
    · rintro ⟨j, hj, h⟩
      have : j = 0 := by omega
      subst this
      exact of_decide_eq_true h
  | k + 1, p => by
    show p ∈ spread ps al (spreads ps al [0] k) ↔ _
    rw [mem_spread, reach_iff h0]
    constructor
    · rintro ⟨h1, ⟨j, hj, h2⟩ | ⟨q, hq, h2⟩⟩
      · exact ⟨j, by omega, h2⟩
      · obtain ⟨j, hj, h3⟩ := (reach_iff h0).mp h2
        exact ⟨j + 1, by omega, rch_succ.mpr ⟨h1, q, hq, h3⟩⟩
    · rintro ⟨j, hj, h⟩
      cases j with
      | zero =>
        have : p = 0 := of_decide_eq_true h
        subst this
        exact ⟨h0, .inl ⟨0, Nat.zero_le _, rfl⟩⟩
      | succ j =>
        obtain ⟨h1, q, hq, h2⟩ := rch_succ.mp h
        exact ⟨h1, .inr ⟨q, hq, (reach_iff h0).mpr ⟨j, by omega, h2⟩⟩⟩
def reached (m : Nat) (ps : PS) (al : List Nat) : List Nat := al.filter fun p => !(far m ps al p).isNone
theorem reach_all (m0 : 0 < m) (hal : ∀ x ∈ al, x < m) (h0 : 0 ∈ al) : spreads ps al [0] m = reached m ps al := by
  obtain ⟨n, rfl⟩ : ∃ n, m = n + 1 := ⟨m - 1, by omega⟩
  show al.filter _ = al.filter _
  refine List.filter_congr fun p hp => ?_
  rw [Bool.eq_iff_iff]
  have h1 : (decide (p ∈ spreads ps al [0] n) || (rowOf ps p).any fun q => decide (q ∈ spreads ps al [0] n)) = true ↔ p ∈ spreads ps al [0] (n + 1) := by
    show _ ↔ p ∈ spread ps al _
    unfold spread
    rw [List.mem_filter]
    exact ⟨fun h => ⟨hp, h⟩, fun h => h.2⟩
  rw [h1, reach_iff h0, Bool.not_eq_true', Option.isNone_eq_false_iff]
  constructor
  · rintro ⟨j, _, h⟩
    cases q : far (n + 1) ps al p with
    | none =>
      rw [(far_none m0 hal).mp q j] at h
      cases h
    | some k => rfl
  · intro h
    obtain ⟨k, hk⟩ := Option.isSome_iff_exists.mp h
    have h2 := dist_some.mp hk
    exact ⟨k, by omega, h2.2.1⟩
theorem far_root (m0 : 0 < m) (hal : ∀ x ∈ al, x < m) : far m ps al 0 = some 0 := (far_some m0 hal).mpr ⟨rfl, fun j h => absurd h (Nat.not_lt_zero _)⟩
theorem far_dead (m0 : 0 < m) (hal : ∀ x ∈ al, x < m) {p : Nat} (h : p ∉ al) (hp : p ≠ 0) : far m ps al p = none := by
  refine (far_none m0 hal).mpr fun k => ?_
  cases k with
  | zero => exact decide_eq_false hp
  | succ k =>
    cases q : rch ps al (k + 1) p with
    | false => rfl
    | true => exact absurd (rch_succ.mp q).1 h
/-- a step nearer -/
theorem far_pred (m0 : 0 < m) (hal : ∀ x ∈ al, x < m) {p k : Nat} (h : far m ps al p = some (k + 1)) : p ∈ al ∧ ∃ q, q ∈ rowOf ps p ∧ far m ps al q = some k := by
  obtain ⟨h1, h2⟩ := (far_some m0 hal).mp h
  obtain ⟨h3, q, h4, h5⟩ := rch_succ.mp h1
  refine ⟨h3, q, h4, (far_some m0 hal).mpr ⟨h5, fun j hj => ?_⟩⟩
  cases h6 : rch ps al j q with
  | false => rfl
  | true =>
    have h7 := h2 (j + 1) (by omega)
    rw [rch_succ.mpr ⟨h3, q, h4, h6⟩] at h7
    cases h7
/-- a neighbour's distance is at most one less -/
theorem far_near (m0 : 0 < m) (hal : ∀ x ∈ al, x < m) {p q k : Nat} (hp : p ∈ al) (hq : q ∈ rowOf ps p) (h : far m ps al q = some k) : ∃ j, far m ps al p = some j ∧ j ≤ k + 1 := by
  have h1 := ((far_some m0 hal).mp h).1
  have h2 : rch ps al (k + 1) p = true := rch_succ.mpr ⟨hp, q, hq, h1⟩
  cases h3 : far m ps al p with
  | none =>
    rw [(far_none m0 hal).mp h3] at h2
    cases h2
  | some j =>
    refine ⟨j, rfl, Nat.le_of_not_lt fun lt => ?_⟩
    rw [((far_some m0 hal).mp h3).2 _ lt] at h2
    cases h2
/-- the neighbours' distances, those that live and have one -/
def stepsOf (m : Nat) (ps : PS) (al : List Nat) (p : Nat) : List Nat := ((rowOf ps p).filter fun q => decide (q ∈ al) && !(far m ps al q).isNone).map fun q => (far m ps al q).getD 0
theorem mem_steps {p k : Nat} : k ∈ stepsOf m ps al p ↔ ∃ q, q ∈ rowOf ps p ∧ q ∈ al ∧ far m ps al q = some k := by
  unfold stepsOf
  rw [List.mem_map]
  constructor
  · rintro ⟨q, h1, h2⟩
    obtain ⟨h3, h4⟩ := List.mem_filter.mp h1
    rw [Bool.and_eq_true, decide_eq_true_eq] at h4
    refine ⟨q, h3, h4.1, ?_⟩
    cases h5 : far m ps al q with
    | none =>
      rw [h5] at h4
      cases h4.2
    | some j =>
      rw [h5] at h2
      exact congrArg some h2
  · rintro ⟨q, h1, h2, h3⟩
    refine ⟨q, List.mem_filter.mpr ⟨h1, ?_⟩, by rw [h3]; rfl⟩
    rw [h3, decide_eq_true h2]
    rfl
theorem fair_none (m0 : 0 < m) (hal : ∀ x ∈ al, x < m) (h0 : 0 ∈ al) {p : Nat} (hp : p ≠ 0) (h : p ∉ al ∨ stepsOf m ps al p = []) : far m ps al p = none := by
  rcases h with h | h
  · exact far_dead m0 hal h hp
  · cases h1 : far m ps al p with
    | none => rfl
    | some k =>
      cases k with
      | zero => exact absurd (of_decide_eq_true ((far_some m0 hal).mp h1).1) hp
      | succ k =>
        obtain ⟨h2, q, h3, h4⟩ := far_pred m0 hal h1
        have hq : q ∈ al := by
          by_cases e : q ∈ al
          · exact e
          · by_cases e0 : q = 0
            · exact absurd (e0 ▸ h0) e
            · rw [far_dead m0 hal e e0] at h4
              cases h4
        have := mem_steps.mpr ⟨q, h3, hq, h4⟩
        rw [h] at this
        cases this
theorem fair_some (m0 : 0 < m) (hal : ∀ x ∈ al, x < m) (h0 : 0 ∈ al) {p k : Nat} (hp : p ≠ 0) (ha : p ∈ al) (hk : k ∈ stepsOf m ps al p) (hmin : ∀ j ∈ stepsOf m ps al p, k ≤ j) : far m ps al p = some (1 + k) := by
  obtain ⟨q, h1, h2, h3⟩ := mem_steps.mp hk
  obtain ⟨j, h4, h5⟩ := far_near m0 hal ha h1 h3
  cases j with
  | zero => exact absurd (of_decide_eq_true ((far_some m0 hal).mp h4).1) hp
  | succ j =>
    obtain ⟨_, r, h6, h7⟩ := far_pred m0 hal h4
    have hr : r ∈ al := by
      by_cases e : r ∈ al
      · exact e
      · by_cases e0 : r = 0
        · exact absurd (e0 ▸ h0) e
        · rw [far_dead m0 hal e e0] at h7
          cases h7
    have := hmin j (mem_steps.mpr ⟨r, h6, hr, h7⟩)
    rw [h4]
    congr 1
    omega
/-! closed sets -/
theorem spreads_al {s : List Nat} (hs : ∀ x ∈ s, x ∈ al) : ∀ {k p : Nat}, p ∈ spreads ps al s k → p ∈ al
  | 0, p, h => hs p h
  | k + 1, p, h => (mem_spread.mp h).1
theorem spreads_le {s : List Nat} (hs : ∀ x ∈ s, x ∈ al) {k p : Nat} (h : p ∈ spreads ps al s k) : p ∈ spreads ps al s (k + 1) := mem_spread.mpr ⟨spreads_al hs h, .inl h⟩
theorem spreads_mono {s : List Nat} (hs : ∀ x ∈ s, x ∈ al) {p j : Nat} : ∀ {k : Nat}, j ≤ k → p ∈ spreads ps al s j → p ∈ spreads ps al s k
  | 0, h, h1 => by
    have : j = 0 := by omega
    exact this ▸ h1
  | k + 1, h, h1 => by
    by_cases e : j = k + 1
    · exact e ▸ h1
    · exact spreads_le hs (spreads_mono hs (by omega) h1)
/-- closed: who lives and hears one of s is in s -/
def Closed (ps : PS) (al s : List Nat) : Prop := ∀ p, p ∈ al → ∀ q, q ∈ rowOf ps p → q ∈ s → p ∈ s
theorem closed_stay {s : List Nat} (hs : ∀ x ∈ s, x ∈ al) {k : Nat} (h : ∀ p, p ∈ spreads ps al s (k + 1) → p ∈ spreads ps al s k) : ∀ {j p : Nat}, k ≤ j → p ∈ spreads ps al s j → p ∈ spreads ps al s k := by
  intro j
  induction j with
  | zero =>
    intro p hj h1
    have : k = 0 := by omega
    exact this ▸ h1
  | succ j ih =>
    intro p hj h1
    by_cases e : k = j + 1
    · exact e ▸ h1
    · obtain ⟨h2, h3 | ⟨q, h3, h4⟩⟩ := mem_spread.mp h1
      · exact ih (by omega) h3
      · exact h p (mem_spread.mpr ⟨h2, .inr ⟨q, h3, ih (by omega) h4⟩⟩)
theorem closed_end {s : List Nat} (hs : ∀ x ∈ s, x ∈ al) (hal : ∀ x ∈ al, x < m) (hne : s ≠ []) : Closed ps al (spreads ps al s m) := by
  have ex : ∃ k, k < m ∧ ∀ p, p ∈ spreads ps al s (k + 1) → p ∈ spreads ps al s k := by
    refine Classical.byContradiction fun no => ?_
    have grow : ∀ k, k ≤ m → k + 1 ≤ (List.range m).countP fun p => decide (p ∈ spreads ps al s k) := by
      intro k
      induction k with
      | zero =>
        intro _
        obtain ⟨x, hx⟩ := List.exists_mem_of_ne_nil _ hne
        exact List.countP_pos_iff.mpr ⟨x, List.mem_range.mpr (hal x (hs x hx)), decide_eq_true hx⟩
      | succ k ih =>
        intro hk
        have h1 := ih (by omega)
        have h2 : ∃ p, p ∈ spreads ps al s (k + 1) ∧ p ∉ spreads ps al s k := by
          refine Classical.byContradiction fun h3 => no ⟨k, by omega, fun p hp => Classical.byContradiction fun h4 => h3 ⟨p, hp, h4⟩⟩
        obtain ⟨p, h3, h4⟩ := h2
        have lt := count_lt (p := fun p => decide (p ∈ spreads ps al s k)) (q := fun p => decide (p ∈ spreads ps al s (k + 1))) (l := List.range m) (fun x _ hx => decide_eq_true (spreads_le hs (of_decide_eq_true hx))) ⟨p, List.mem_range.mpr (hal p (spreads_al hs h3)), decide_eq_true h3, decide_eq_false h4⟩
        omega
    have h1 := grow m (Nat.le_refl m)
    have h2 := List.countP_le_length (p := fun p => decide (p ∈ spreads ps al s m)) (l := List.range m)
    rw [List.length_range] at h2
    omega
  obtain ⟨k, hk, h⟩ := ex
  intro p hp q hq h1
  have h2 := closed_stay hs h (by omega) h1
  exact spreads_mono hs (show k ≤ m by omega) (h p (mem_spread.mpr ⟨hp, .inr ⟨q, hq, h2⟩⟩))
/-- a closed set without the root has no distance -/
theorem closed_far {s : List Nat} (m0 : 0 < m) (hal : ∀ x ∈ al, x < m) (h0 : 0 ∈ al) (hs : Closed ps al s) (hsa : ∀ x ∈ s, x ∈ al) (sym : ∀ a b, a ∈ rowOf ps b → b ∈ rowOf ps a) (n0 : 0 ∉ s) : ∀ {k p : Nat}, p ∈ s → rch ps al k p = false
  | 0, p, h => decide_eq_false fun e => n0 (e ▸ h)
  | k + 1, p, h => by
    cases q : rch ps al (k + 1) p with
    | false => rfl
    | true =>
      obtain ⟨h1, r, h2, h3⟩ := rch_succ.mp q
      have hr : r ∈ al := by
        cases k with
        | zero =>
          have : r = 0 := of_decide_eq_true h3
          exact this ▸ h0
        | succ k => exact (rch_succ.mp h3).1
      have := closed_far m0 hal h0 hs hsa sym n0 (hs r hr p (sym _ _ h2) h) (k := k)
      rw [h3] at this
      cases this
theorem row_sym (g : Good m ps) {a b : Nat} (h : a ∈ rowOf ps b) : b ∈ rowOf ps a := by
  obtain ⟨p, hp, ⟨e1, e2⟩ | ⟨e1, e2, e3⟩⟩ := mem_row.mp h
  · have := (g.lt p hp).1
    exact mem_row.mpr ⟨p, hp, .inr ⟨by omega, e2.symm, e1.symm⟩⟩
  · exact mem_row.mpr ⟨p, hp, .inl ⟨e3.symm, e2.symm⟩⟩
theorem row_ne (g : Good m ps) {a b : Nat} (h : a ∈ rowOf ps b) : a ≠ b := by
  obtain ⟨p, hp, ⟨e1, e2⟩ | ⟨e1, e2, e3⟩⟩ := mem_row.mp h <;> have := (g.lt p hp).1 <;> omega
/-- each one of a spread from one place has a neighbour in it, if it is not alone -/
theorem spread_near (g : Good m ps) {x : Nat} (hx : x ∈ al) {k r o : Nat} (hr : r ∈ spreads ps al [x] k) (ho : o ∈ spreads ps al [x] k) (ne : r ≠ o) : ∃ n, n ∈ spreads ps al [x] k ∧ n ≠ r ∧ r ∈ rowOf ps n := by
  have hs : ∀ y ∈ [x], y ∈ al := fun y hy => by rw [List.mem_singleton.mp hy]; exact hx
  have other : ∀ {k r : Nat}, r ∈ spreads ps al [x] k → r ≠ x → ∃ n, n ∈ spreads ps al [x] k ∧ n ∈ rowOf ps r := by
    intro k
    induction k with
    | zero =>
      intro r h1 h2
      exact absurd (List.mem_singleton.mp h1) h2
    | succ k ih =>
      intro r h1 h2
      obtain ⟨h3, h4 | ⟨q, h4, h5⟩⟩ := mem_spread.mp h1
      · obtain ⟨n, h5, h6⟩ := ih h4 h2
        exact ⟨n, spreads_le hs h5, h6⟩
      · exact ⟨q, spreads_le hs h5, h4⟩
  by_cases e : r = x
  · subst e
    -- the first one that is not r was brought by r
    have first : ∀ {k o : Nat}, o ∈ spreads ps al [r] k → o ≠ r → ∃ n, n ∈ spreads ps al [r] k ∧ n ≠ r ∧ r ∈ rowOf ps n := by
      intro k
      induction k with
      | zero =>
        intro o h1 h2
        exact absurd (List.mem_singleton.mp h1) h2
      | succ k ih =>
        intro o h1 h2
        obtain ⟨h3, h4 | ⟨q, h4, h5⟩⟩ := mem_spread.mp h1
        · obtain ⟨n, h5, h6⟩ := ih h4 h2
          exact ⟨n, spreads_le hs h5, h6⟩
        · by_cases e2 : q = r
          · exact ⟨o, h1, h2, e2 ▸ h4⟩
          · obtain ⟨n, h6, h7⟩ := ih h5 e2
            exact ⟨n, spreads_le hs h6, h7⟩
    exact first ho (fun z => ne z.symm)
  · obtain ⟨n, h1, h2⟩ := other hr e
    exact ⟨n, h1, row_ne g h2, row_sym g h2⟩
theorem spread_pw {s : List Nat} (pw : al.Pairwise (· < ·)) {k : Nat} (hk : 0 < k) : (spreads ps al s k).Pairwise (· < ·) := by
  obtain ⟨n, rfl⟩ : ∃ n, k = n + 1 := ⟨k - 1, by omega⟩
  exact pw.filter _
/-- what cut_holds says of closed sets, and of such without one -/
theorem cut_closed {cs : List Nat} (hc : Closed ps al cs) (hsa : ∀ x ∈ cs, x ∈ al) (pw : cs.Pairwise (· < ·)) (sym : ∀ a b, a ∈ rowOf ps b → b ∈ rowOf ps a) (n0 : 0 ∉ cs) : cutHolds ps al cs = true := by
  unfold cutHolds
  have h1 : (cs.any fun x => decide (x = 0) || !decide (x ∈ al)) = false := by
    rw [List.any_eq_false]
    intro x hx
    rw [decide_eq_false (fun e : x = 0 => n0 (e ▸ hx)), decide_eq_true (hsa x hx)]
    decide
  have h3 : ((cs.flatMap (rowOf ps)).all fun n => decide (n ∈ cs) || !decide (n ∈ al)) = true := by
    rw [List.all_eq_true]
    intro n hn
    obtain ⟨x, hx, hr⟩ := List.mem_flatMap.mp hn
    by_cases hna : n ∈ al
    · rw [decide_eq_true (hc n hna x (sym _ _ hr) hx)]
      rfl
    · rw [decide_eq_false hna]
      exact Bool.or_true _
  rw [h1, rises_of pw, h3]
  rfl
theorem cut_root {cs : List Nat} (h : 0 ∈ cs) : cutHolds ps al cs = false := by
  unfold cutHolds
  have : (cs.any fun x => decide (x = 0) || !decide (x ∈ al)) = true := List.any_eq_true.mpr ⟨0, h, rfl⟩
  rw [this]
  rfl
theorem cut_open {cs : List Nat} {n r : Nat} (hn : n ∈ cs) (hr : r ∈ rowOf ps n) (hal : r ∈ al) (hno : r ∉ cs) : cutHolds ps al cs = false := by
  unfold cutHolds
  have : ((cs.flatMap (rowOf ps)).all fun n => decide (n ∈ cs) || !decide (n ∈ al)) = false := by
    rw [List.all_eq_false]
    refine ⟨r, List.mem_flatMap.mpr ⟨n, hn, hr⟩, ?_⟩
    rw [decide_eq_false hno, decide_eq_true hal]
    decide
  rw [this]
  exact Bool.and_false _
end
end Wm
namespace Wm
open PySem PySem.Spec PyProof.Rows L2 Lf
open Evl
theorem given_gen (b : List Nat) (f : Nat → Bool) (g : Nat → V) : given b.length (fun n => f (b.getD n 0)) (fun n => g (b.getD n 0)) = (b.filter f).map g := by
  have e : b = (List.range b.length).map fun i => b.getD i 0 := by
    refine List.ext_getElem? fun i => ?_
    by_cases q : i < b.length
    · rw [List.getElem?_map, List.getElem?_range q, List.getElem?_eq_getElem q]
      show _ = some (b.getD i 0)
      rw [List.getD_eq_getElem?_getD, List.getElem?_eq_getElem q]
      rfl
    · rw [List.getElem?_eq_none (by omega), List.getElem?_eq_none (by rw [List.length_map, List.length_range]; omega)]
  unfold given
  conv => rhs; rw [e]
  rw [List.filter_map, List.map_map]
  rfl
theorem steps_given (m : Nat) (ps : PS) (al : List Nat) (p : Nat) : ((rowOf ps p).filter fun q => decide (q ∈ al) && !(far m ps al q).isNone).map (fun q => oV (far m ps al q)) = vN (stepsOf m ps al p) := by
  unfold vN stepsOf
  rw [List.map_map]
  refine List.map_congr_left fun q hq => ?_
  obtain ⟨_, h⟩ := List.mem_filter.mp hq
  rw [Bool.and_eq_true] at h
  cases h5 : far m ps al q with
  | none =>
    rw [h5] at h
    cases h.2
  | some k =>
    show V.int (k : Int) = V.int (((far m ps al q).getD 0 : Nat) : Int)
    rw [h5]
    rfl
theorem has_min : ∀ {l : List Nat}, l ≠ [] → ∃ k ∈ l, ∀ j ∈ l, k ≤ j
  | [], h => absurd rfl h
  | [x], _ => ⟨x, List.mem_singleton.mpr rfl, fun j hj => by rw [List.mem_singleton.mp hj]; exact Nat.le_refl _⟩
  | x :: y :: l, _ => by
    obtain ⟨k, hk, h⟩ := has_min (l := y :: l) (fun z => nomatch z)
    by_cases e : x ≤ k
    · exact ⟨x, List.mem_cons_self, fun j hj => by
        rcases List.mem_cons.mp hj with rfl | hj
        · exact Nat.le_refl _
        · exact Nat.le_trans e (h j hj)⟩
    · exact ⟨k, List.mem_cons_of_mem _ hk, fun j hj => by
        rcases List.mem_cons.mp hj with rfl | hj
        · omega
        · exact h j hj⟩
theorem far_cases {m : Nat} {ps : PS} {al : List Nat} (m0 : 0 < m) (hal : ∀ x ∈ al, x < m) (h0 : 0 ∈ al) {p : Nat} (hp : p ≠ 0) : (decide (p ∈ al) && !(stepsOf m ps al p).isEmpty) = true ∧ (∃ k ∈ stepsOf m ps al p, (∀ j ∈ stepsOf m ps al p, k ≤ j) ∧ far m ps al p = some (1 + k)) ∨ (decide (p ∈ al) && !(stepsOf m ps al p).isEmpty) = false ∧ far m ps al p = none := by
  by_cases h : p ∈ al
  · rw [decide_eq_true h, Bool.true_and]
    cases q : stepsOf m ps al p with
    | nil => exact .inr ⟨rfl, fair_none m0 hal h0 hp (.inr q)⟩
    | cons x xs =>
      have ne : stepsOf m ps al p ≠ [] := by rw [q]; exact fun z => nomatch z
      obtain ⟨k, hk, hm⟩ := has_min ne
      rw [← q]
      refine .inl ⟨?_, k, hk, hm, fair_some m0 hal h0 hp h hk hm⟩
      rw [q]
      rfl
  · rw [decide_eq_false h]
    exact .inr ⟨rfl, fair_none m0 hal h0 hp (.inl h)⟩
end Wm
namespace Wm
open PySem PySem.Spec PyProof.Rows L2 Lf
open Evl
theorem rep_oD {m : Nat} {ps : PS} {al : List Nat} {p : Nat} (h : m ≤ 1000) : Rep 60 1000000 (oD (far m ps al p)) := by
  cases q : far m ps al p with
  | none => exact Rep.non.mono (by decide) (by decide)
  | some k =>
    have := (dist_some.mp q).1
    exact (Rep.int (i := (k : Int)) (by show k < _; omega)).mono (by decide) (by decide)
theorem ev_min {K : PySem.W.Frag} {σ : L2.St} {H : Hp} {te : TE} {l : Addr} {s : List Nat} {k : Nat} (hl : H l = some (.lst (vN s))) (h : Ev te σ H (.ref l)) (hk : k ∈ s) (hm : ∀ j ∈ s, k ≤ j) : Ev (tCB (rMin K) (tCons te tNil)) σ H (.int (k : Int)) :=
  ev_cb (ea_cons h ea_nil) fun H2 e2 Q q => ⟨l, s.map fun n : Nat => (n : Int), rfl, by
    have e : (s.map fun n : Nat => (n : Int)).map V.int = vN s := by
      unfold vN
      rw [List.map_map]
      rfl
    rw [e]
    exact sq_of (e2 _ _ hl), by rw [List.length_map]; exact List.length_pos_of_mem hk, fun x hx hall => by
    obtain ⟨n, hn, rfl⟩ := List.mem_map.mp hx
    have h1 := hm n hn
    have h2 := hall (k : Int) (List.mem_map.mpr ⟨k, hk, rfl⟩)
    have : n = k := by omega
    rw [this]
    exact q H2 (Ex.refl _)⟩
end Wm
namespace Wm
open PySem PySem.Spec PyProof.Rows L2 Lf
open Evl
theorem vN_snoc (b : List Nat) (n : Nat) : vN (b ++ [n]) = vN b ++ [V.int (n : Int)] := by
  unfold vN
  rw [List.map_append]
  rfl
theorem vN_last (b : List Nat) (n : Nat) : atI (vN (b ++ [n])) (-1) = some (.int (n : Int)) := by
  rw [vN_snoc]
  exact atI_last _ _
/-- a road by neighbours through the living ones, from x to the root -/
structure Road (ps : PS) (al : List Nat) (x : Nat) (rs : List Nat) : Prop where
  first : rs[0]? = some x
  last : ∃ pre, rs = pre ++ [0]
  ins : ∀ y ∈ rs, y ∈ al
  adj : ∀ i y z, rs[i]? = some y → rs[i + 1]? = some z → z ∈ rowOf ps y
  few : rs.length ≤ 1000
theorem snoc_of : ∀ {l : List Nat}, l ≠ [] → ∃ pre y, l = pre ++ [y]
  | l, h => ⟨l.dropLast, l.getLast h, (List.dropLast_concat_getLast h).symm⟩
theorem far_in {m : Nat} {ps : PS} {al : List Nat} (m0 : 0 < m) (hal : ∀ x ∈ al, x < m) (h0 : 0 ∈ al) {p k : Nat} (h : far m ps al p = some k) : p ∈ al := by
  by_cases e : p ∈ al
  · exact e
  · by_cases e0 : p = 0
    · exact e0 ▸ h0
    · rw [far_dead m0 hal e e0] at h
      cases h
theorem oV_int {o : Option Nat} {k : Nat} : decide (oV o = V.int (k : Int)) = decide (o = some k) := by
  rw [decide_eq_decide]
  cases o with
  | none =>
    constructor
    · intro h
      cases h
    · intro h
      cases h
  | some j =>
    constructor
    · intro h
      have h1 : V.int (j : Int) = V.int (k : Int) := h
      have := V.int.inj h1
      congr 1
      omega
    · intro h
      rw [Option.some.inj h]
      rfl
end Wm
namespace Wm
open PySem PySem.Spec PyProof.Rows L2 Lf
theorem oV_scal (o : Option Nat) (i : Int) : scal (oV o) (V.int i) = true := by
  cases o <;> rfl
end Wm
namespace Wm
open PySem PySem.Spec PyProof.Rows L2 Lf
open Evl
theorem cutV_take (xs : List V) {j : Nat} (h : j ≤ xs.length) : cutV xs none (some (j : Int)) = xs.take j := by
  unfold cutV
  rw [HT.sIx_none, HT.sIx_nat, List.drop_zero, Nat.sub_zero, Nat.min_eq_left h]
theorem cutV_drop (xs : List V) {j : Nat} (h : j ≤ xs.length) : cutV xs (some (j : Int)) none = xs.drop j := by
  unfold cutV
  rw [HT.sIx_none, HT.sIx_nat, Nat.min_eq_left h, List.take_of_length_le (by rw [List.length_drop]; omega)]
theorem vN_take (b : List Nat) (j : Nat) : (vN b).take j = vN (b.take j) := by
  unfold vN
  rw [List.map_take]
theorem vN_drop (b : List Nat) (j : Nat) : (vN b).drop j = vN (b.drop j) := by
  unfold vN
  rw [List.map_drop]
theorem vN_app (a b : List Nat) : vN a ++ vN b = vN (a ++ b) := by
  unfold vN
  rw [List.map_append]
section
variable {m : Nat} {ps : PS} {al : List Nat}
theorem cut_empty : cutHolds ps al [] = true := rfl
/-- one taken out of a closed set of one root: not closed any more -/
theorem cut_less (g : Good m ps) {x : Nat} (hx : x ∈ al) (pw : al.Pairwise (· < ·)) {S : List Nat} (hS : S = spreads ps al [x] m) (hm : 0 < m) {j : Nat} (hj : j < S.length) (h1 : 1 < S.length) : cutHolds ps al (S.take j ++ S.drop (j + 1)) = false := by
  have hs : ∀ y ∈ [x], y ∈ al := fun y hy => by rw [List.mem_singleton.mp hy]; exact hx
  have pS : S.Pairwise (· < ·) := by rw [hS]; exact spread_pw pw hm
  have lt : ∀ a b (ha : a < S.length) (hb : b < S.length), a < b → S[a] < S[b] := fun a b ha hb hab => List.pairwise_iff_getElem.mp pS a b ha hb hab
  have mem : ∀ i (hi : i < S.length), S[i] ∈ spreads ps al [x] m := fun i hi => by
    rw [← hS]
    exact List.getElem_mem hi
  have hr := mem j hj
  have other : ∃ o, o ∈ spreads ps al [x] m ∧ S[j] ≠ o := by
    by_cases e : j = 0
    · exact ⟨S[1], mem 1 h1, by have := lt j 1 hj h1 (by omega); omega⟩
    · exact ⟨S[0], mem 0 (by omega), by have := lt 0 j (by omega) hj (by omega); omega⟩
  obtain ⟨o, ho, ne⟩ := other
  obtain ⟨n, hn, nr, hrow⟩ := spread_near g hx hr ho ne
  refine cut_open (n := n) (r := S[j]) ?_ hrow (spreads_al hs hr) ?_
  · rw [← hS] at hn
    obtain ⟨i, hi, rfl⟩ := List.mem_iff_getElem.mp hn
    rw [List.mem_append]
    by_cases e : i < j
    · exact .inl (List.mem_take_iff_getElem.mpr ⟨i, by omega, rfl⟩)
    · refine .inr (List.mem_drop_iff_getElem.mpr ⟨i - (j + 1), ?_, ?_⟩)
      · by_cases e2 : i = j
        · subst e2
          exact absurd rfl nr
        · omega
      · by_cases e2 : i = j
        · subst e2
          exact absurd rfl nr
        · have e3 : j + 1 + (i - (j + 1)) = i := by omega
          simp only [e3]
  · intro h
    rcases List.mem_append.mp h with h | h
    · obtain ⟨i, hi, e⟩ := List.mem_take_iff_getElem.mp h
      have := lt i j (by omega) hj (by omega)
      omega
    · obtain ⟨i, hi, e⟩ := List.mem_drop_iff_getElem.mp h
      have := lt j (j + 1 + i) hj (by omega) (by omega)
      omega
end
end Wm
end
section
set_option Elab.async false
set_option linter.all false
set_option maxRecDepth 100000
set_option maxHeartbeats 4000000
/-! xs[lo:hi] = ys, the parts left out or told -/
namespace L2
open PySem PySem.Spec PyProof.Rows
section
variable {prog : Program} {w : World} {A : Around} {E : Value → Shared → Prop} {s : Shared}
theorem setItem_cut {l b sl : Addr} {items new : Array Value} {n n2 : Nat} {vl vu : Value} {lo hi : Option Int} {a c : Nat} {Q : Unit → Shared → Prop} (e : s.heap.get? l = some { cls := .type "list", data := .seq items n }) (e2 : s.heap.get? b = some { cls := .type "list", data := .seq new n2 })
    (hne : l ≠ b) (hs : s.heap.IsSliceOf sl vl vu .none) (pl : IsPart vl lo) (pu : IsPart vu hi) (hb : sliceBounds lo hi none items.size = ((a : Int), (c : Int), 1)) (hac : a ≤ c) (hc : c ≤ items.size) (hsz : items.size + new.size ≤ sizeLine)
    (h : Q () { s with heap := s.heap.update l (Obj.mapSeq fun xs => xs.extract 0 a ++ new ++ xs.extract c xs.size) }) : wpAny (model prog w) A (setItem (.ref l) (.ref sl) (.ref b)) Q E s := by
  obtain ⟨os, hos, hcs, hds⟩ := id hs
  have tl := (PySem.IsL.isList e).typeIs; have tb := (PySem.IsL.isList e2).typeIs; have ts : s.TypeIs (.ref sl) "slice" := ⟨os, hos, hcs⟩
  have no0 : ¬ ((rawPart none == rawInt 0) = true) := Bool.false_ne_true
  have apart : Builtin.List.listSameRef (.ref l) (.ref b) = false := by unfold Builtin.List.listSameRef; exact beq_eq_false_iff_ne.mpr hne
  have top : (max (a : Int) (c : Int)).toNat = c := by omega
  have fits : ((fun xs : Array Value => xs.extract 0 a ++ new ++ xs.extract c xs.size) items).size ≤ sizeLine + 1 := by simp only [Array.size_append, Array.size_extract]; omega
  unfold setItem; (try with_reducible refine wpAny_holding ?_); (first | refine wpAny_bind (wpAny_pure ?_) | skip)
  refine wpAny_bind (wpAny_sequenceKey tl (by decide) ?_); refine wpAny_bind (wpAny_callSpecial?_slot (name := Str.ofString "__setitem__") tl slot_list_setitem (wpAny_call_entry slot_list_setitem tl entry_list_setitem ?_ (args_list_setitem _ _ _)))
  show wpAny _ _ (Builtin.List.listSubscript? (.ref sl) >>= _) _ _ s; refine wpAny_bind ?_
  unfold Builtin.List.listSubscript?; refine wpAny_bind (wpAny_specialOf ts slice_no_index ?_)
  simp only [Option.isNone_none, if_true]; refine wpAny_pure ?_
  show wpAny _ _ (typeOf (.ref sl) >>= _) _ _ s; refine wpAny_bind (wpAny_typeOf ts ?_)
  (first | rw [if_neg (by decide)] | refine PySem.W.KFB.if_not (by decide) ?_); rw [listSliceParts_eq]
  refine wpAny_bind (wpAny_bind (wpAny_field hos hds (x := .none) rfl (wpAny_bind (wpAny_listPart .none ?_)))); rw [if_neg no0]
  refine wpAny_bind (wpAny_field hos hds (x := vl) rfl (wpAny_bind (wpAny_listPart pl ?_))); refine wpAny_bind (wpAny_field hos hds (x := vu) rfl (wpAny_bind (wpAny_listPart pu (wpAny_pure ?_))))
  (first | simp only [apart, Bool.false_eq_true, if_false] | refine PySem.W.KFB.if_not apart ?_ | (dsimp only; rw [if_neg (by rw [apart]; exact Bool.false_ne_true)]))
  refine wpAny_bind (m := Builtin.List.listAllItems (.ref b) "must assign iterable to extended slice") ?_; unfold Builtin.List.listAllItems; refine wpAny_bind (wpAny_typeOf tb ?_)
  (first | refine PySem.W.KFB.if_so (by decide) ?_ | rw [if_pos (by decide)] | simp only [beq_self_eq_true, Bool.true_or, if_true]); unfold Builtin.List.listItems
  refine wpAny_bind (wpAny_seqItems e2 rfl (wpAny_pure ?_)); refine wpAny_bind (wpAny_bind (wpAny_seqItems e rfl (wpAny_pure ?_)))
  refine wpAny_bind (wpAny_of_eq ((sliceIndices_raw lo hi none items.size (by simp)).trans (congrArg (pure : Int × Int × Int → Sem (Int × Int × Int)) hb)) ?_)
  show wpAny _ _ (if ((1 : Int) == 1) = true then _ else _) _ _ s; rw [if_pos (by decide)]; refine wpAny_bind (wpAny_rule ?_)
  (first | simp only [notLongL hsz, Bool.false_eq_true, if_false] | refine PySem.W.KFB.if_not (notLongL hsz) ?_); (first | refine wpAny_bind (wpAny_pure ?_) | skip)
  show wpAny _ _ (updateSeq l (fun xs => xs.extract 0 ((a : Int)).toNat ++ new ++ xs.extract (max (a : Int) (c : Int)).toNat xs.size) >>= _) _ _ s; rw [top, Int.toNat_natCast]
  refine wpAny_bind (wpAny_updateSeq (hz := Nat.le_trans (Nat.le_add_right _ _) hsz) (_hz' := fits) e rfl ?_); refine wpAny_bind (wpAny_letGo ?_)
  (first | exact wpAny_bind (wpAny_pure (wpAny_pure ⟨.none, rfl, wpAny_pure h⟩)) | exact wpAny_pure ⟨.none, rfl, wpAny_pure h⟩)
end
section
variable {X : Cx}
def gSl (to : TE) (tl th : TO) : TG := fun v σ H Q => to σ H fun o H1 => tl σ H1 fun lo H2 => th σ H2 fun hi H3 => ∃ (l b : Addr) (xs ys : List V) (a c : Nat), o = .ref l ∧ v = .ref b ∧ l ≠ b ∧ H3 l = some (.lst xs) ∧ H3 b = some (.lst ys) ∧ sliceBounds lo hi none xs.length = ((a : Int), (c : Int), 1) ∧ a ≤ c ∧ c ≤ xs.length ∧ xs.length + ys.length ≤ sizeLine ∧
  Q σ (upd H3 l (.lst (xs.take a ++ ys ++ xs.drop c)))
theorem pg_sl {o : Expr} {lo hi : Option Expr} {to : TE} {tl th : TO} {p2 pos : Pos} (ho : PE X o to) (hl : PO X lo tl) (hu : PO X hi th)
    (ha : ∀ v, assign (.Subscript o (.Slice lo hi none p2) pos) X.env v = (do
      let ov ← holding [v] (eval o X.env); let iv ← holding [v, ov] (eval (.Slice lo hi none p2) X.env)
      standAt pos; holding [v, ov, iv] (setItem ov iv v); release [iv, v, ov] []) := by intro _; rfl) : PG X (.Subscript o (.Slice lo hi none p2) pos) (gSl to tl th) := by
  refine ⟨fun pins s σ H v u Q I r h => ?_⟩
  rw [ha]
  refine wpAny_bind (wpAny_holding (thn (ho.run pins s σ H _ I h) fun ov s1 ⟨x, H1, I1, r1, q1⟩ => ?_))
  refine wpAny_bind (wpAny_holding (wpAny_Slice (thn (hl.run pins s1 σ H1 _ I1 q1) fun vl s2 ⟨l', H2, I2, pl, q2⟩ => thn (hu.run pins s2 σ H2 _ I2 q2) fun vu s3 ⟨u', H3, I3, pu, q3⟩ => ?_)))
  rw [evalPart_none]
  refine wpAny_pure ?_
  have I4 : Inv X pins σ H3 { s3 with heap := s3.heap.push { cls := .type "slice", data := .fields #[vl, vu, .none] } } := I3.kept (t' := s3.toks) fun b ob q => Heap.get?_push_of_some _ q
  obtain ⟨l, b, xs, ys, a, c, rfl, rfl, hne, hH, hB, hb, hac, hc, hz, q⟩ := q3
  cases r1
  cases r
  obtain ⟨z, its, n, rr, hl1, e⟩ := I4.lstM hH
  obtain ⟨z2, its2, n2, r2, hl2, e2⟩ := I4.lstM hB
  refine wpAny_bind (wpAny_standAt (wpAny_bind (wpAny_holding ?_)))
  refine setItem_cut (a := a) (c := c) e e2 hne (Heap.IsSliceOf.new ..) pl pu (by rw [List.size_toArray, ← hl1]; exact hb) hac (by rw [List.size_toArray]; omega) (by rw [List.size_toArray, List.size_toArray]; omega) ?_
  refine wpAny_release ⟨σ, _, I4.lset (its' := its.take a ++ its2 ++ its.drop c) (t' := s3.toks) hH e ?_ (Vals.append (Vals.append (rr.take _) r2) (rr.drop _)) ?_, q⟩
  · exact splice_eq its its2 a c
  · rw [List.length_append, List.length_append, List.length_take, List.length_drop]
    omega
end
end L2
namespace Wm
open PySem PySem.Spec PyProof.Rows L2 Lf
open Evl
theorem sorted_ext : ∀ {a b : List Nat}, a.Pairwise (· < ·) → b.Pairwise (· < ·) → (∀ x, x ∈ a ↔ x ∈ b) → a = b
  | [], [], _, _, _ => rfl
  | [], y :: b, _, _, h => absurd ((h y).mpr List.mem_cons_self) (fun z => nomatch z)
  | x :: a, [], _, _, h => absurd ((h x).mp List.mem_cons_self) (fun z => nomatch z)
  | x :: a, y :: b, h1, h2, h => by
    obtain ⟨p1, q1⟩ := List.pairwise_cons.mp h1
    obtain ⟨p2, q2⟩ := List.pairwise_cons.mp h2
    have e : x = y := by
      rcases List.mem_cons.mp ((h x).mp List.mem_cons_self) with e | hx
      · exact e
      · rcases List.mem_cons.mp ((h y).mpr List.mem_cons_self) with e | hy
        · exact e.symm
        · have := p1 y hy
          have := p2 x hx
          omega
    subst e
    congr 1
    refine sorted_ext q1 q2 fun z => ⟨fun hz => ?_, fun hz => ?_⟩
    · rcases List.mem_cons.mp ((h z).mp (List.mem_cons_of_mem _ hz)) with e | h3
      · have := p1 z hz
        omega
      · exact h3
    · rcases List.mem_cons.mp ((h z).mpr (List.mem_cons_of_mem _ hz)) with e | h3
      · have := p2 z hz
        omega
      · exact h3
theorem there_eq {m : Nat} {ps : PS} {al : List Nat} (m0 : 0 < m) (hal : ∀ x ∈ al, x < m) (h0 : 0 ∈ al) (pw : al.Pairwise (· < ·)) : (List.range m).filter (fun x => !(far m ps al x).isNone) = reached m ps al := by
  refine sorted_ext (List.pairwise_lt_range.filter _) (pw.filter _) fun x => ?_
  unfold reached
  rw [List.mem_filter, List.mem_filter, List.mem_range]
  refine ⟨fun ⟨h1, h2⟩ => ⟨?_, h2⟩, fun ⟨h1, h2⟩ => ⟨hal x h1, h2⟩⟩
  cases q : far m ps al x with
  | none =>
    rw [q] at h2
    cases h2
  | some k => exact far_in m0 hal h0 q
theorem due_eq {m : Nat} {ps : PS} {al : List Nat} : al.filter (fun x => !decide (x ∈ reached m ps al)) = cutOf m ps al := by
  unfold cutOf
  refine List.filter_congr fun x hx => ?_
  unfold reached
  cases q : (far m ps al x).isNone with
  | true =>
    rw [decide_eq_false]
    · rfl
    · intro h
      have := (List.mem_filter.mp h).2
      rw [q] at this
      cases this
  | false =>
    rw [decide_eq_true (List.mem_filter.mpr ⟨hx, by rw [q]; rfl⟩)]
    rfl
theorem all_cut (xs ys : List V) : xs.take 0 ++ ys ++ xs.drop xs.length = ys := by
  rw [List.take_zero, List.nil_append, List.drop_length, List.append_nil]
theorem whole_bounds (n : Nat) : sliceBounds none none none n = (((0 : Nat) : Int), (n : Int), 1) := rfl
theorem q_dropL {σ : L2.St} {H : Hp} {te : TE} {xs : List V} {D : Ends} {tz : TS} (h : EvL te σ H xs) (k : ∀ H1, Ex H H1 → tz D σ H1) : tSeq (tDrop te) tz D σ H := h H (Ex.refl H) _ fun _ H1 _ e _ => k H1 e
end Wm
namespace Wm
open PySem PySem.Spec PyProof.Rows L2 Lf
open Evl
theorem cutV_init (xs : List V) (v : V) : cutV (xs ++ [v]) none (some (-1)) = xs := by
  unfold cutV
  have e : HT.sIx (xs ++ [v]).length (xs ++ [v]).length (some (-1)) = xs.length := by
    show (if (-1 : Int) < 0 then ((-1 : Int) + ((xs ++ [v]).length : Int)).toNat else min (-1 : Int).toNat (xs ++ [v]).length) = _
    rw [if_pos (by decide), List.length_append, List.length_singleton]
    omega
  rw [e, HT.sIx_none, List.drop_zero, Nat.sub_zero, List.take_left]
theorem rch_more {ps : PS} {al bl : List Nat} (h : ∀ x ∈ al, x ∈ bl) : ∀ {k p : Nat}, rch ps al k p = true → rch ps bl k p = true
  | 0, p, h1 => h1
  | k + 1, p, h1 => by
    obtain ⟨h2, q, h3, h4⟩ := rch_succ.mp h1
    exact rch_succ.mpr ⟨h p h2, q, h3, rch_more h h4⟩
def FV (m : Nat) (ps : PS) (al : List Nat) : List Nat := (List.range m).map fun x => (far m ps al x).getD 99
theorem FV_len {m : Nat} {ps : PS} {al : List Nat} : (FV m ps al).length = m := by
  unfold FV
  rw [List.length_map, List.length_range]
theorem FV_get {m : Nat} {ps : PS} {al : List Nat} {x : Nat} (h : x < m) : (FV m ps al)[x]? = some ((far m ps al x).getD 99) := by
  unfold FV
  rw [List.getElem?_map, List.getElem?_range h]
  rfl
theorem FV_le {m : Nat} {ps : PS} {al bl : List Nat} (m0 : 0 < m) (m10 : m ≤ 10) (hal : ∀ x ∈ al, x < m) (hbl : ∀ x ∈ bl, x < m) (h : ∀ x ∈ al, x ∈ bl) (x : Nat) : (far m ps bl x).getD 99 ≤ (far m ps al x).getD 99 := by
  have lt : ∀ {cl : List Nat}, (far m ps cl x).getD 99 ≤ 99 := by
    intro cl
    cases q : far m ps cl x with
    | none => exact Nat.le_refl _
    | some k =>
      have := (dist_some.mp q).1
      show k ≤ 99
      omega
  cases q : far m ps al x with
  | none => exact lt
  | some k =>
    have h1 := rch_more h ((far_some m0 hal).mp q).1
    cases q2 : far m ps bl x with
    | none =>
      rw [(far_none m0 hbl).mp q2 k] at h1
      cases h1
    | some j =>
      show j ≤ k
      refine Nat.le_of_not_lt fun lt2 => ?_
      rw [((far_some m0 hbl).mp q2).2 k lt2] at h1
      cases h1
theorem reach_in {m : Nat} {ps : PS} {al : List Nat} {p : Nat} (h : p ∈ reached m ps al) : p ∈ al ∧ ∃ k, far m ps al p = some k := by
  obtain ⟨h1, h2⟩ := List.mem_filter.mp h
  refine ⟨h1, ?_⟩
  cases q : far m ps al p with
  | none =>
    rw [q] at h2
    cases h2
  | some k => exact ⟨k, rfl⟩
end Wm
end
section
set_option Elab.async false
set_option linter.all false
set_option maxRecDepth 100000
set_option maxHeartbeats 4000000
namespace K15
local macro_rules | `(tactic| walk_at "pos") => `(tactic| (show (0 : Int) < _; first | decide | omega))
open PySem PySem.Spec PyProof.Rows L2 Lf
def topS (i : Nat) : Stmt := PySem.Challenge.pw_listenfield_k15_whole_roads_and_cuts.main.body.getD i (.Pass ⟨0, 0, 0, 0⟩)
abbrev s_bag : Stmt := topS 21
abbrev ns_bag : List Str := ["_law_script", "_law_cell"]
theorem sc_bag : FnScope ns_bag ["_law_script"] (defScope s_bag) := ⟨rfl, rfl, rfl, by decide +kernel, rfl, by decide +kernel, by decide +kernel⟩
abbrev s_take : Stmt := topS 22
abbrev ns_take : List Str := ["_law_bag_here", "_law_many", "_law_cell", "_law_value", "_law_first", "_law_second"]
theorem sc_take : FnScope ns_take ["_law_bag_here", "_law_many"] (defScope s_take) := ⟨rfl, rfl, rfl, by decide +kernel, rfl, by decide +kernel, by decide +kernel⟩
structure Txt (K : PySem.W.Frag) (mg : Str → Option Value) : Prop where
  n_abs : mg "abs" = none
  n_len : mg "len" = none
section
variable {P : Program} {w : World} {K : PySem.W.Frag} {mg : Str → Option Value} {base : Heap}
theorem c_take (D : Df K mg "_law_take" s_take ["_law_bag_here", "_law_many"]) (T : Txt K mg) : Cal P w K mg base CX0 1 "_law_take" spTake := by
  refine D.cal sc_take (fun vs H Q E h => ?_) (fun f cdv A outer s H vs Q E g hr h => ?_)
  · obtain ⟨b, many, rfl, _⟩ := h
    rfl
  · obtain ⟨⟨b, c⟩, many, rfl, ⟨x, y, z, ns, hb, hc, hx, ⟨hy, hy2⟩, hz, hn⟩, ⟨hm, hm2⟩, k⟩ := h
    refine ⟨_, (C8.pss_cut (ps_if (pt_cmpR op_eq (pe_ix (kix (K := K) (r := rIxL) ix_list rfl) (pv 0) pe_int (fun _ _ => rfl)) pe_int (nomark _)) (pss_cons (ps_set (i := 2) sc_take.nd rfl (Or.inl rfl) pe_int)
        (C8.pss_cut (ps_if (pt_cmpR op_lt (pe_ix (kix (K := K) (r := rIxL) ix_list rfl) (pv 0) pe_int (fun _ _ => rfl)) (pe_callB (k_len (K := K) rfl) (by rfl) T.n_len PySem.boot_len (pa_cons (pe_ix (kix (K := K) (r := rIxL) ix_list rfl) (pv 0) pe_int (fun _ _ => rfl)) pa_nil)) (nomark _)) (pss_one (ps_set (i := 2) sc_take.nd rfl (Or.inl rfl) (pe_ix (kix (K := K) (r := rIxL) ix_list rfl) (pe_ix (kix (K := K) (r := rIxL) ix_list rfl) (pv 0) pe_int (fun _ _ => rfl)) (pe_ix (kix (K := K) (r := rIxL) ix_list rfl) (pv 0) pe_int (fun _ _ => rfl)) (fun _ _ => rfl)))) pss_nil)
        (pss_cons (ps_augS (pv 0) pe_int get_list pe_int ip_add set_list)
        (C8.pss_cut (ps_if (pt_cmpR op_ge (pv 2) pe_int (nomark _)) (pss_one (ps_asg (pv 2) (pg_sub (pv 0) pe_int set_list))) pss_nil)
        (pss_one (ps_asg (pe_op op_mod (pe_op op_add (pe_op op_add (pe_op op_mul (pe_ix (kix (K := K) (r := rIxL) ix_list rfl) (pv 0) pe_int (fun _ _ => rfl)) pe_int) (pe_op op_mod (pv 2) pe_int)) (pe_op op_mul pe_int (pe_ix (kix (K := K) (r := rIxL) ix_list rfl) (pv 0) pe_int (fun _ _ => rfl)))) pe_int) (pg_sub (pv 0) pe_int set_list))))))) pss_nil)
    (pss_cons (ps_if (pt_cmpR op_gt (pe_ix (kix (K := K) (r := rIxL) ix_list rfl) (pv 0) pe_int (fun _ _ => rfl)) pe_int (nomark _)) (pss_cons (ps_set (i := 3) sc_take.nd rfl (Or.inl rfl) (pe_op op_mod (pe_ix (kix (K := K) (r := rIxL) ix_list rfl) (pv 0) pe_int (fun _ _ => rfl)) (pv 1)))
        (pss_cons (ps_asg (pe_op op_fdiv (pe_ix (kix (K := K) (r := rIxL) ix_list rfl) (pv 0) pe_int (fun _ _ => rfl)) (pv 1)) (pg_sub (pv 0) pe_int set_list))
        (pss_one (ps_ret (pv 3))))) pss_nil)
    (pss_cons (ps_set (i := 4) sc_take.nd rfl (Or.inl rfl) (pe_op op_mod (pe_op op_mul (pe_op op_add (pe_ix (kix (K := K) (r := rIxL) ix_list rfl) (pv 0) pe_int (fun _ _ => rfl)) pe_int) pe_int) pe_int))
    (pss_cons (ps_set (i := 5) sc_take.nd rfl (Or.inl rfl) (pe_op op_mod (pe_op op_mul (pe_op op_mod (pe_op op_mul (pv 4) (pv 4)) pe_int) pe_int) pe_int))
    (pss_cons (ps_if (pt_cmpR op_gt (pv 1) pe_int (nomark _)) (pss_one (ps_ret (pe_op op_mod (pe_op op_add (pe_op op_mul (pv 5) pe_int) (pv 4)) (pv 1)))) pss_nil)
    (pss_one (ps_ret (pe_op op_mod (pe_op op_fdiv (pv 5) pe_int) (pv 1))))))))), ?_⟩
    have hb : H b = some (.lst [.int x, .int y, .int z, .ref c]) := hb
    have hc : H c = some (.lst (ns.map V.int)) := hc
    have k : ∀ v H', 0 ≤ v → v < many → Bag H' (b, c) → (∀ a, a ≠ b → H' a = H a) → Q (.int v) H' := k
    have ncb : c ≠ b := by
      rintro rfl
      rw [hb] at hc
      cases ns with
      | nil => cases hc
      | cons n1 ns => cases ns with
        | nil => cases hc
        | cons n2 ns => cases ns with
          | nil => cases hc
          | cons n3 ns => cases ns with
            | nil => cases hc
            | cons n4 ns => cases hc
    -- what stands behind the cell's taking
    refine ⟨fun σ H' => ∃ (o2 : Option V) (x y z : Int), σ = [some (.ref b), some (.int many), o2, none, none, none] ∧ 0 ≤ x ∧ (0 ≤ y ∧ y < 2147483647) ∧ 0 ≤ z ∧ H' b = some (.lst [.int x, .int y, .int z, .ref c]) ∧ (∀ a, a ≠ b → H' a = H a), ?_, ?_⟩
    · refine ⟨_, rfl, b, _, 0, _, rfl, rfl, SqL.of hb, rfl, rfl, _, rfl, ite2 (fun e => ?_) (fun e => ?_)⟩
      · -- cell = 0; if bag[2] < len(bag[3]): cell = bag[3][bag[2]]
        have ex : x = 0 := V.int.inj (of_decide_eq_true e)
        subst ex
        -- behind the cell's choice
        refine ⟨fun σ H' => H' = H ∧ ∃ cell : Int, 0 ≤ cell ∧ σ = [some (.ref b), some (.int many), some (.int cell), none, none, none], ?_, ?_⟩
        · refine ⟨_, rfl, b, _, 2, _, rfl, rfl, SqL.of hb, rfl, _, rfl, b, _, 3, _, rfl, rfl, SqL.of hb, rfl, c, _, rfl, .inl (SqL.of hc), _, _, rfl, rfl, _, rfl, ite2 (fun e => ?_) (fun e => ?_)⟩
          · have e0 : z < ns.length := by simpa using of_decide_eq_true e
            obtain ⟨n, rfl⟩ := Int.eq_ofNat_of_zero_le hz
            have hl : n < ns.length := by omega
            refine ⟨_, rfl, b, _, 3, _, rfl, rfl, SqL.of hb, rfl, _, rfl, b, _, 2, _, rfl, rfl, SqL.of hb, rfl, c, _, _, .int ns[n], rfl, rfl, SqL.of hc, atI_nat (by rw [List.getElem?_map, List.getElem?_eq_getElem hl]; rfl), rfl, ns[n], hn _ (List.getElem_mem hl), rfl⟩
          · exact ⟨rfl, 0, Int.le_refl _, rfl⟩
        · rintro σ H' ⟨rfl, cell, hcell, rfl⟩
          refine ⟨_, rfl, b, _, 2, _, rfl, rfl, SqL.of hb, rfl, _, _, rfl, rfl, b, _, 2, 2, rfl, rfl, hb, rfl, ?_⟩
          refine ⟨fun σ H2 => ∃ x : Int, 0 ≤ x ∧ σ = [some (.ref b), some (.int many), some (.int cell), none, none, none] ∧ H2 b = some (.lst [.int x, .int y, .int (z + 1), .ref c]) ∧ (∀ a, a ≠ b → H2 a = H' a), ?_, ?_⟩
          · refine ⟨_, rfl, _, _, rfl, rfl, _, rfl, ite2 (fun e => ?_) (fun e => ?_)⟩
            · refine ⟨_, rfl, _, rfl, b, _, 0, 0, rfl, rfl, upd_same, rfl, cell, hcell, rfl, upd_same, fun a ha => (upd_ne ha).trans (upd_ne ha)⟩
            · exact ⟨0, Int.le_refl _, rfl, upd_same, fun a ha => upd_ne ha⟩
          · rintro σ H2 ⟨x, hx, rfl, hb2, hs2⟩
            refine ⟨_, rfl, b, _, 1, _, rfl, rfl, SqL.of hb2, rfl, _, _, rfl, rfl, .inl (by omega), _, rfl, _, _, rfl, rfl, (by walk_at "pos"), _, _, rfl, rfl, ?_⟩
            refine ⟨_, rfl, b, _, 2, _, rfl, rfl, SqL.of hb2, rfl, _, _, rfl, rfl, .inl (by decide), _, _, rfl, rfl, _, _, rfl, rfl, (by walk_at "pos"), _, rfl, b, _, 1, 1, rfl, rfl, hb2, rfl, ?_⟩
            exact ⟨_, x, _, z + 1, rfl, hx, ⟨Int.emod_nonneg _ (by decide), Int.emod_lt_of_pos _ (by decide)⟩, by omega, upd_same, fun a ha => (upd_ne ha).trans (hs2 a ha)⟩
      · exact ⟨none, x, y, z, rfl, hx, ⟨hy, hy2⟩, hz, hb, fun _ _ => rfl⟩
    · rintro σ H' ⟨o2, x, y, z, rfl, hx, ⟨hy, hy2⟩, hz, hb, hs⟩
      have hc' : H' c = some (.lst (ns.map V.int)) := (hs c ncb).trans hc
      refine ⟨_, rfl, b, _, 0, _, rfl, rfl, SqL.of hb, rfl, _, _, rfl, rfl, _, rfl, ite2 (fun e => ?_) (fun e => ?_)⟩
      · have e0 : 0 < x := of_decide_eq_true e
        refine ⟨_, rfl, b, _, 0, _, rfl, rfl, SqL.of hb, rfl, _, rfl, _, _, rfl, rfl, hm, ?_⟩
        refine ⟨_, rfl, b, _, 0, _, rfl, rfl, SqL.of hb, rfl, _, rfl, _, _, rfl, rfl, ⟨hm, hm2⟩, ?_⟩
        refine ⟨_, rfl, b, _, 0, 0, rfl, rfl, hb, rfl, ?_⟩
        refine ⟨_, rfl, ?_⟩
        refine k _ _ (Int.emod_nonneg _ (by omega)) (Int.emod_lt_of_pos _ hm) ⟨x / many, y, z, ns, upd_same, (upd_ne ncb).trans hc', Int.ediv_nonneg hx (by omega), ⟨hy, hy2⟩, hz, hn⟩ (fun a ha => (upd_ne ha).trans (hs a ha))
      · -- the stirred number
        refine ⟨_, rfl, b, _, 1, _, rfl, rfl, SqL.of hb, rfl, _, _, rfl, rfl, _, _, rfl, rfl, .inl (by omega), _, _, rfl, rfl, (by walk_at "pos"), ?_⟩
        have f1 : 0 ≤ (y + 1) * 39373 % 1000000007 := Int.emod_nonneg _ (by decide)
        have f2 : (y + 1) * 39373 % 1000000007 < 1000000007 := Int.emod_lt_of_pos _ (by decide)
        generalize (y + 1) * 39373 % 1000000007 = p at *
        have g1 : 0 ≤ p * p % 998244353 := Int.emod_nonneg _ (by decide)
        have g2 : p * p % 998244353 < 998244353 := Int.emod_lt_of_pos _ (by decide)
        refine ⟨_, rfl, _, rfl, _, _, rfl, rfl, .inl (by omega), _, _, rfl, rfl, (by walk_at "pos"), _, _, rfl, rfl, .inl (by omega), _, _, rfl, rfl, (by walk_at "pos"), ?_⟩
        have s1 : 0 ≤ p * p % 998244353 * 30011 % 998244353 := Int.emod_nonneg _ (by decide)
        have s2 : p * p % 998244353 * 30011 % 998244353 < 998244353 := Int.emod_lt_of_pos _ (by decide)
        generalize p * p % 998244353 * 30011 % 998244353 = q at *
        have back : ∀ v : Int, 0 ≤ v → v < many → Q (.int v) H' := fun v h1 h2 => k v H' h1 h2 ⟨x, y, z, ns, hb, hc', hx, ⟨hy, hy2⟩, hz, hn⟩ hs
        refine ⟨_, rfl, _, _, rfl, rfl, _, rfl, ite2 (fun e => ?_) (fun e => ?_)⟩
        · refine ⟨_, rfl, _, _, rfl, rfl, .inl (by omega), _, rfl, _, _, rfl, rfl, _, rfl, _, _, rfl, rfl, hm, ?_⟩
          exact back _ (Int.emod_nonneg _ (by omega)) (Int.emod_lt_of_pos _ hm)
        · refine ⟨_, rfl, _, _, rfl, rfl, ⟨by decide, by decide⟩, _, rfl, _, _, rfl, rfl, hm, ?_⟩
          exact back _ (Int.emod_nonneg _ (by omega)) (Int.emod_lt_of_pos _ hm)
end
end K15
end
section
set_option Elab.async false
set_option linter.all false
set_option maxRecDepth 100000
set_option maxHeartbeats 4000000
namespace K15
open PySem PySem.Spec PyProof.Rows L2 Lf
open Evl (Ex RetV RetL)
local macro_rules | `(tactic| walk_at "pos") => `(tactic| (show (0 : Int) < _; first | decide | omega))
abbrev s_number_of : Stmt := topS 5
abbrev ns_number_of : List Str := ["thing", "ahead", "behind"]
theorem sc_number_of : FnScope ns_number_of ["thing"] (defScope s_number_of) := ⟨rfl, rfl, rfl, by decide +kernel, rfl, by decide +kernel, by decide +kernel⟩
abbrev s_tuple_of : Stmt := topS 6
abbrev ns_tuple_of : List Str := ["thing"]
theorem sc_tuple_of : FnScope ns_tuple_of ["thing"] (defScope s_tuple_of) := ⟨rfl, rfl, rfl, by decide +kernel, rfl, by decide +kernel, by decide +kernel⟩
abbrev s_list_of : Stmt := topS 7
abbrev ns_list_of : List Str := ["thing"]
theorem sc_list_of : FnScope ns_list_of ["thing"] (defScope s_list_of) := ⟨rfl, rfl, rfl, by decide +kernel, rfl, by decide +kernel, by decide +kernel⟩
abbrev s_is_within : Stmt := topS 9
abbrev ns_is_within : List Str := ["thing", "least", "most", "number"]
theorem sc_is_within : FnScope ns_is_within ["thing", "least", "most"] (defScope s_is_within) := ⟨rfl, rfl, rfl, by decide +kernel, rfl, by decide +kernel, by decide +kernel⟩
abbrev s_rises : Stmt := topS 10
abbrev ns_rises : List Str := ["things", "ahead", "behind"]
theorem sc_rises : FnScope ns_rises ["things"] (defScope s_rises) := ⟨rfl, rfl, rfl, by decide +kernel, rfl, by decide +kernel, by decide +kernel⟩
structure TxtB (K : PySem.W.Frag) (mg : Str → Option Value) : Prop where
  n_isinstance : mg "isinstance" = none
  n_int : mg "int" = none
  n_bool : mg "bool" = none
  n_tuple : mg "tuple" = none
  n_list : mg "list" = none
  n_range : mg "range" = none
  n_any : mg "any" = none
  n_all : mg "all" = none
  n_zip : mg "zip" = none
  n_enumerate : mg "enumerate" = none
  n_len : mg "len" = none
def optV : Option Int → V
  | none => .non
  | some i => .int i
/-- what number_of makes of a value -/
def Whole (K : PySem.W.Frag) (H : Hp) (v : V) (o : Option Int) : Prop := ∃ t b1 b2, TyX K H v t ∧ PySem.W.kitOne K t (.type "int") = some b1 ∧ PySem.W.kitOne K t (.type "bool") = some b2 ∧
  ((b1 = true ∧ b2 = false ∧ ∃ i, v = .int i ∧ o = some i) ∨ (b1 = false ∧ o = none) ∨ (b1 = true ∧ b2 = true ∧ o = none))
theorem Whole.int (K : PySem.W.Frag) (H : Hp) (i : Int) : Whole K H (.int i) (some i) := ⟨_, true, false, .base (.int i), kit_ty (by decide +kernel), kit_ty (by decide +kernel), .inl ⟨rfl, rfl, i, rfl, rfl⟩⟩
def spNumber (K : PySem.W.Frag) : Sp := fun vs H Q _ => ∃ v o, vs = [v] ∧ Whole K H v o ∧ RetV (optV o) H Q
def inB (o : Option Int) (lo hi : Int) : Bool := match o with
  | none => false
  | some i => decide (lo ≤ i) && decide (i ≤ hi)
def spWithin (K : PySem.W.Frag) : Sp := fun vs H Q _ => ∃ v o lo hi, vs = [v, .int lo, .int hi] ∧ Whole K H v o ∧ RetV (.bl (inB o lo hi)) H Q
section
variable {P : Program} {w : World} {K : PySem.W.Frag} {mg : Str → Option Value} {base : Heap}
theorem c_number_of (D : Df K mg "number_of" s_number_of ["thing"]) (T : TxtB K mg) : Cal P w K mg base CX0 1 "number_of" (spNumber K) := by
  refine D.cal sc_number_of (fun vs H Q E h => ?_) (fun f cdv A outer s H vs Q E g hr h => ?_)
  · obtain ⟨v, o, rfl, _⟩ := h
    rfl
  · obtain ⟨v, o, rfl, ⟨t, b1, b2, ty, k1, k2, hc⟩, k⟩ := h
    refine ⟨_, (pss_cons (ps_if (PW.pt (pw_or (pt_not (pt_val (pe_callB (kcr (K := K) (r := rIsi) call_isi rfl) (by rfl) T.n_isinstance (by decide +kernel) (pa_cons (pv 0) (pa_cons (pe_bltn (v := .ty "int") (by rfl) T.n_int (by decide +kernel) rfl) pa_nil))))) (pw_or1 (pt_val (pe_callB (kcr (K := K) (r := rIsi) call_isi rfl) (by rfl) T.n_isinstance (by decide +kernel) (pa_cons (pv 0) (pa_cons (pe_bltn (v := .ty "bool") (by rfl) T.n_bool (by decide +kernel) rfl) pa_nil))))))) (pss_one (ps_ret pe_non)) pss_nil)
    (pss_cons (ps_set (i := 1) sc_number_of.nd rfl (Or.inl rfl) (pe_callTy cr_range1 (by rfl) T.n_range (by decide +kernel) (pa_cons (pv 0) pa_nil)))
    (pss_cons (ps_if (pt_cmpR op_in_rng pe_int (pv 1) rfl) (pss_one (ps_ret (pe_op op_add (pe_ix ix_rng (pv 1) (pe_un un_neg pe_int) (fun _ _ => rfl)) pe_int))) pss_nil)
    (pss_cons (ps_set (i := 2) sc_number_of.nd rfl (Or.inl rfl) (pe_callTy cr_range2 (by rfl) T.n_range (by decide +kernel) (pa_cons (pv 0) (pa_cons pe_int pa_nil))))
    (pss_one (ps_ret (pe_ix ix_rng (pv 2) pe_int (fun _ _ => rfl)))))))), ?_⟩
    refine ⟨_, rfl, v, .ty "int", t, .type "int", b1, rfl, .ty _, ty, k1, b1, rfl, ?_⟩
    rcases hc with ⟨rfl, rfl, i, rfl, rfl⟩ | ⟨rfl, rfl⟩ | ⟨rfl, rfl, rfl⟩
    · refine iteF ⟨_, rfl, .int i, .ty "bool", t, .type "bool", false, rfl, .ty _, ty, k2, false, rfl, iteF ?_⟩
      refine ⟨_, rfl, i, rfl, fun p hp => ?_⟩
      refine ⟨_, rfl, 0, p, 0, i, rfl, rfl, upd_same, _, rfl, ite2 (fun e => ?_) (fun e => ?_)⟩
      · have e0 := of_decide_eq_true e
        refine ⟨_, rfl, 1, rfl, p, 0, i, -1, -1 + (i - 0), rfl, rfl, upd_same, rfl, ⟨by omega, by omega⟩, _, _, rfl, rfl, ?_⟩
        have e1 : 0 + (-1 + (i - 0)) + 1 = i := by omega
        show Q (V.int (0 + (-1 + (i - 0)) + 1)) _
        rw [e1]
        exact k _ (Ex.new hp)
      · have e0 : ¬ (0 < i) := fun z => e (decide_eq_true ⟨Int.le_refl _, z⟩)
        refine ⟨_, rfl, i, 1, rfl, fun q hq => ?_⟩
        refine ⟨_, rfl, q, i, 1, 0, 0, rfl, rfl, upd_same, rfl, ⟨by omega, by omega⟩, ?_⟩
        rw [Int.add_zero]
        exact k _ ((Ex.new hp).trans (Ex.new hq))
    · exact iteT (iteT (k _ (Ex.refl _)))
    · exact iteF ⟨_, rfl, v, .ty "bool", t, .type "bool", true, rfl, .ty _, ty, k2, true, rfl, iteT (k _ (Ex.refl _))⟩
theorem c_is_within (D : Df K mg "is_within" s_is_within ["thing", "least", "most"]) (T : TxtB K mg) (c_number_of : Cal P w K mg base CX0 1 "number_of" (spNumber K)) : Cal P w K mg base CX0 2 "is_within" (spWithin K) := by
  refine D.cal sc_is_within (fun vs H Q E h => ?_) (fun f cdv A outer s H vs Q E g hr h => ?_)
  · obtain ⟨v, o, lo, hi, rfl, _⟩ := h
    rfl
  · obtain ⟨v, o, lo, hi, rfl, hw, k⟩ := h
    refine ⟨_, (pss_cons (ps_set (i := 3) sc_is_within.nd rfl (Or.inl rfl) (ec c_number_of g hr (by decide) pass0 (by rfl) (pa_cons (pv 0) pa_nil)))
    (pss_one (ps_ret (pe_and (pe_cmpR op_notN (pv 3) pe_non (nomark _)) (pe_one (pe_chain op_le op_le (pv 1) (pv 3) (pv 2))))))), ?_⟩
    refine ⟨_, rfl, v, o, rfl, hw, fun H1 e1 => ?_⟩
    refine ⟨_, rfl, rfl, _, rfl, ?_⟩
    cases o with
    | none => exact iteF (k _ e1)
    | some i =>
      refine iteT ⟨_, rfl, _, rfl, _, _, rfl, rfl, _, rfl, ?_⟩
      by_cases h1 : lo ≤ i
      · refine (decide_eq_true h1).symm ▸ iteT ⟨_, rfl, _, _, rfl, rfl, ?_⟩
        have e2 : inB (some i) lo hi = decide (i ≤ hi) := by simp [inB, h1]
        rw [e2] at k
        exact k _ e1
      · refine (decide_eq_false h1).symm ▸ iteF ?_
        have e2 : inB (some i) lo hi = false := by simp [inB, h1]
        rw [e2] at k
        exact k _ e1
end
end K15
end
section
set_option Elab.async false
set_option linter.all false
set_option maxRecDepth 100000
set_option maxHeartbeats 4000000
namespace K15
open PySem PySem.Spec PyProof.Rows L2 Lf Wm
open Evl
local macro_rules | `(tactic| walk_at "pos") => `(tactic| (show (0 : Int) < _; first | decide | omega))
abbrev s_pair_of : Stmt := topS 18
abbrev ns_pair_of : List Str := ["many", "thing", "parts", "lesser", "greater", "part"]
theorem sc_pair_of : FnScope ns_pair_of ["many", "thing"] (defScope s_pair_of) := ⟨rfl, rfl, rfl, by decide +kernel, rfl, by decide +kernel, by decide +kernel⟩
abbrev s_pairs_of : Stmt := topS 17
abbrev ns_pairs_of : List Str := ["many", "thing", "things", "pairs", "each"]
theorem sc_pairs_of : FnScope ns_pairs_of ["many", "thing"] (defScope s_pairs_of) := ⟨rfl, rfl, rfl, by decide +kernel, rfl, by decide +kernel, by decide +kernel⟩
abbrev s_near_lists : Stmt := topS 19
abbrev ns_near_lists : List Str := ["many", "pairs", "near", "lesser", "greater", "_"]
theorem sc_near_lists : FnScope ns_near_lists ["many", "pairs"] (defScope s_near_lists) := ⟨rfl, rfl, rfl, by decide +kernel, rfl, by decide +kernel, by decide +kernel⟩
def spTuple (K : PySem.W.Frag) : Sp := fun vs H Q _ => ∃ a xs, vs = [.ref a] ∧ SqT K H a xs ∧ RetV (.ref a) H Q
def spList (K : PySem.W.Frag) : Sp := fun vs H Q _ => ∃ a xs, vs = [.ref a] ∧ SqL K H a xs ∧ RetL xs H Q
def spRises (K : PySem.W.Frag) : Sp := fun vs H Q _ => ∃ v ps, vs = [v] ∧ Dp K H v (dPs ps) ∧ ps.length ≤ 1000 ∧ RetV (.bl (risesB ps)) H Q
def spLeast (K : PySem.W.Frag) : Sp := fun vs H Q _ => ∃ a b, vs = [.ref a] ∧ SqL K H a (vN b) ∧ RetV (.int (least b : Nat)) H Q
section
variable {P : Program} {w : World} {K : PySem.W.Frag} {mg : Str → Option Value} {base : Heap}
theorem c_tuple_of (D : Df K mg "tuple_of" s_tuple_of ["thing"]) (T : TxtB K mg) : Cal P w K mg base CX0 1 "tuple_of" (spTuple K) := by
  refine D.cal sc_tuple_of (fun vs H Q E h => ?_) (fun f cdv A outer s H vs Q E g hr h => ?_)
  · obtain ⟨a, xs, rfl, _⟩ := h
    rfl
  · obtain ⟨a, xs, rfl, ht, k⟩ := h
    refine ⟨_, (pss_one (ps_ret (pe_ifExp (pt_val (pe_callB (kcr (K := K) (r := rIsi) call_isi rfl) (by rfl) T.n_isinstance (by decide +kernel) (pa_cons (pv 0) (pa_cons (pe_bltn (v := .ty "tuple") (by rfl) T.n_tuple (by decide +kernel) rfl) pa_nil)))) (pe_callTy (k_tpl (K := K) rfl) (by rfl) T.n_tuple (by decide +kernel) (pa_cons (pv 0) pa_nil)) pe_non))), ?_⟩
    exact ⟨_, rfl, .ref a, .ty "tuple", _, .type "tuple", true, rfl, .ty _, ty_of_t ht, kit_ty (by decide +kernel), true, rfl, iteT ⟨_, rfl, a, xs, rfl, .inr ⟨ht, k _ (Ex.refl _)⟩⟩⟩
theorem c_list_of (D : Df K mg "list_of" s_list_of ["thing"]) (T : TxtB K mg) : Cal P w K mg base CX0 1 "list_of" (spList K) := by
  refine D.cal sc_list_of (fun vs H Q E h => ?_) (fun f cdv A outer s H vs Q E g hr h => ?_)
  · obtain ⟨a, xs, rfl, _⟩ := h
    rfl
  · obtain ⟨a, xs, rfl, ht, k⟩ := h
    refine ⟨_, (pss_one (ps_ret (pe_ifExp (pt_val (pe_callB (kcr (K := K) (r := rIsi) call_isi rfl) (by rfl) T.n_isinstance (by decide +kernel) (pa_cons (pv 0) (pa_cons (pe_bltn (v := .ty "list") (by rfl) T.n_list (by decide +kernel) rfl) pa_nil)))) (pe_callTy (k_lst (K := K) rfl) (by rfl) T.n_list (by decide +kernel) (pa_cons (pv 0) pa_nil)) pe_non))), ?_⟩
    exact ⟨_, rfl, .ref a, .ty "list", _, .type "list", true, rfl, .ty _, ty_of_l ht, kit_ty (by decide +kernel), true, rfl, iteT ⟨_, rfl, a, xs, rfl, .inl ht, fun l hl => k l _ hl (Ex.new hl) upd_same⟩⟩
theorem c_rises (D : Df K mg "rises" s_rises ["things"]) (T : TxtB K mg) : Cal P w K mg base CX0 1 "rises" (spRises K) := by
  refine D.cal sc_rises (fun vs H Q E h => ?_) (fun f cdv A outer s H vs Q E g hr h => ?_)
  · obtain ⟨v, ps, rfl, _⟩ := h
    rfl
  · obtain ⟨v, ps, rfl, hd, hl, k⟩ := h
    obtain ⟨a, xs, rfl, hx, hlen, hi⟩ := dPs_list hd
    refine ⟨_, (pss_one (ps_ret (pe_callB (kcr (K := K) (r := rAll) (cr_all rfl) rfl) (by rfl) T.n_all (by decide +kernel) (pa_cons (pe_lc (own := [("ahead", 1), ("behind", 2)]) (g := (gTup K 2 (gCons (gName 1) (gCons (gName 2) gNil)))) (tt := tYes) (by rfl) sc_rises.nd (k_zip (K := K) rfl (by rfl) T.n_zip (pa_cons (pv 0) (pa_cons (pe_slice (ksl (K := K) (r := rSlL) sl_list rfl) (pv 0) (po_some pe_int) po_none) pa_nil))) (blkOk_by (own := [("ahead", 1), ("behind", 2)]) (N := ns_rises) (sc := defScope s_rises) (by decide +kernel)) (fun _ _ _ _ _ => (k_gtup (K := K) rfl (by rfl) (pgs_cons (pg_name (i := 1) sc_rises.nd rfl (Or.inl rfl)) (pgs_cons (pg_name (i := 2) sc_rises.nd rfl (Or.inl rfl)) pgs_nil)))) (fun _ _ _ _ _ => pts_nil) (fun _ _ _ _ _ => (pe_cmpR (kop (K := K) (r := rLtT) (op_ltT hr.units0) rfl) (pv 1) (pv 2) (nomark _)))) pa_nil)))), ?_⟩
    refine s_ret (v := .bl (risesB ps)) (ev_all (bs := (List.range (ps.length - 1)).map fun i => lexP (ps.getD i (0, 0)) (ps.getD (i + 1) (0, 0))) ?_) (fun H1 e => k H1 e)
    rw [List.map_map]
    refine el_mapZ (a := a) (xs := xs) (ys := xs.drop 1) (V.bl ∘ fun i => lexP (ps.getD i (0, 0)) (ps.getD (i + 1) (0, 0))) (fun H1 e Q q => ?_) hx ?_ (by omega) (fun _ _ => rfl) (fun i x y H1 e h1 h2 => ?_)
    · refine ⟨_, rfl, _, rfl, 1, rfl, a, xs, rfl, ex_l e hx, fun p hp => q p _ (Ex.new hp) ?_⟩
      rw [cut1]
      exact sq_of upd_same
    · rw [List.length_drop]
      omega
    · obtain ⟨p, t, e1, rfl, ht⟩ := hi i x h1
      rw [List.getElem?_drop, Nat.add_comm 1 i] at h2
      obtain ⟨q, u, e2, rfl, hu⟩ := hi (i + 1) y h2
      refine ev_is (ev_op (ev_var rfl) (ev_var rfl) (z := .bl (lexP p q)) (rv_val fun H2 e3 Q k => ?_)) ?_
      · exact ⟨t, u, [(p.1 : Int), p.2], [(q.1 : Int), q.2], rfl, rfl, ex_t (e.trans e3) ht, ex_t (e.trans e3) hu, k⟩
      · show V.bl _ = V.bl (lexP (ps.getD i (0, 0)) (ps.getD (i + 1) (0, 0)))
        rw [List.getD_eq_getElem?_getD, List.getD_eq_getElem?_getD, e1, e2]
        rfl
end
end K15
end
section
set_option Elab.async false
set_option linter.all false
set_option maxRecDepth 100000
set_option maxHeartbeats 4000000
namespace K15
open PySem PySem.Spec PyProof.Rows L2 Lf Wm
open Evl
def spPair (K : PySem.W.Frag) : Sp := fun vs H Q _ => ∃ (t : Addr) (m a b : Nat), vs = [.int m, .ref t] ∧ SqT K H t [.int a, .int b] ∧ a < b ∧ b < m ∧ ∀ p H2, H p = none → Ex H H2 → H2 p = some (.tup [.int a, .int b]) → Q (.ref p) H2
def spPairs (K : PySem.W.Frag) : Sp := fun vs H Q _ => ∃ (v : V) (m : Nat) (ps : PS), vs = [.int m, v] ∧ Dp K H v (dPs ps) ∧ Good m ps ∧ ∀ (a : Addr) (ws : List V) (H2 : Hp), Ex H H2 → H a = none → H2 a = some (.lst ws) → PairsIn H2 ws ps → Q (.ref a) H2
def spNear (K : PySem.W.Frag) : Sp := fun vs H Q _ => ∃ (v : V) (m : Nat) (ps : PS), vs = [.int m, v] ∧ Dp K H v (dPs ps) ∧ Good m ps ∧ ∀ (a : Addr) (ws : List V) (H2 : Hp), Ex H H2 → H a = none → H2 a = some (.lst ws) → RowsIn H2 ws (nearOf m ps) → (∀ (i : Nat) (t : Addr), ws[i]? = some (.ref t) → H t = none) → Q (.ref a) H2
theorem bl_map (n : Nat) (q : Nat → Bool) : ((List.range n).map fun i => V.bl (q i)) = ((List.range n).map q).map V.bl := by rw [List.map_map]; rfl
section
variable {P : Program} {w : World} {K : PySem.W.Frag} {mg : Str → Option Value} {base : Heap}
theorem sv_number {i : Int} {H : Hp} : SV (spNumber K) [.int i] H (.int i) := fun H1 e Q q E => ⟨.int i, some i, rfl, .int K H1 i, q⟩
theorem sv_within {i lo hi : Int} {H : Hp} : SV (spWithin K) [.int i, .int lo, .int hi] H (.bl (decide (lo ≤ i) && decide (i ≤ hi))) := fun H1 e Q q E => ⟨.int i, some i, lo, hi, rfl, .int K H1 i, q⟩
theorem c_pair_of (D : Df K mg "pair_of" s_pair_of ["many", "thing"]) (T : TxtB K mg) (c_tuple_of : Cal P w K mg base CX0 1 "tuple_of" (spTuple K)) (c_number_of : Cal P w K mg base CX0 1 "number_of" (spNumber K)) (c_is_within : Cal P w K mg base CX0 2 "is_within" (spWithin K)) :
    Cal P w K mg base CX0 3 "pair_of" (spPair K) := by
  refine D.cal sc_pair_of (fun vs H Q E h => ?_) (fun f cdv A outer s H vs Q E g hr h => ?_)
  · obtain ⟨t, m, a, b, rfl, _⟩ := h
    rfl
  · obtain ⟨t, m, a, b, rfl, ht, hab, hbm, k⟩ := h
    refine ⟨_, (pss_cons (ps_set (i := 2) sc_pair_of.nd rfl (Or.inl rfl) (ec c_tuple_of g hr (by decide) pass0 (by rfl) (pa_cons (pv 1) pa_nil)))
    (pss_cons (ps_if (PW.pt (pw_or (pt_cmpR op_isN (pv 2) pe_non (nomark _)) (pw_or1 (pt_cmpR op_ne (pe_callB (k_len (K := K) rfl) (by rfl) T.n_len PySem.boot_len (pa_cons (pv 2) pa_nil)) pe_int (nomark _))))) (pss_one (ps_ret pe_non)) pss_nil)
    (pss_cons (ps_if (pt_not (pt_val (pe_callB (kcr (K := K) (r := rAll) (cr_all rfl) rfl) (by rfl) T.n_all (by decide +kernel) (pa_cons (pe_lc (own := [("part", 5)]) (g := (gName 5)) (tt := tYes) (by rfl) sc_pair_of.nd (k_tup (K := K) rfl (pv 2)) (blkOk_by (own := [("part", 5)]) (N := ns_pair_of) (sc := defScope s_pair_of) (by decide +kernel)) (fun _ _ _ _ _ => (pg_name (i := 5) sc_pair_of.nd rfl (Or.inl rfl))) (fun _ _ _ _ _ => pts_nil) (fun _ _ _ _ _ => (ec c_is_within g hr (by decide) pass0 (by rfl) (pa_cons (pv 5) (pa_cons pe_int (pa_cons (pe_op op_sub (pv 0) pe_int) pa_nil)))))) pa_nil)))) (pss_one (ps_ret pe_non)) pss_nil)
    (pss_cons (ps_asg (pe_lc (own := [("part", 5)]) (g := (gName 5)) (tt := tYes) (by rfl) sc_pair_of.nd (k_tup (K := K) rfl (pv 2)) (blkOk_by (own := [("part", 5)]) (N := ns_pair_of) (sc := defScope s_pair_of) (by decide +kernel)) (fun _ _ _ _ _ => (pg_name (i := 5) sc_pair_of.nd rfl (Or.inl rfl))) (fun _ _ _ _ _ => pts_nil) (fun _ _ _ _ _ => (ec c_number_of g hr (by decide) pass0 (by rfl) (pa_cons (pv 5) pa_nil)))) (pg_lst (by rfl) (pgs_cons (pg_name (i := 3) sc_pair_of.nd rfl (Or.inl rfl)) (pgs_cons (pg_name (i := 4) sc_pair_of.nd rfl (Or.inl rfl)) pgs_nil))))
    (pss_one (ps_ret (pe_ifExp (pt_cmpR op_lt (pv 3) (pv 4) (nomark _)) (pe_tup (pa_cons (pv 3) (pa_cons (pv 4) pa_nil))) pe_non))))))), ?_⟩
    -- parts = tuple_of(thing)
    refine q_asg (ev_cl (ea_cons (ev_var rfl) ea_nil) (fun H1 e Q q E => ⟨t, _, rfl, ex_t e ht, q⟩)) fun H1 e1 => ?_
    -- if parts is None or len(parts) != 2
    refine q_when (b := false) (et_is (et_or (et_test (ev_op (ev_var rfl) ev_c (z := .bl false) (rv_val fun H e Q q => ⟨rfl, q⟩))) (fun _ => et_test (ev_op (ev_lenT (ev_var rfl) (ex_t e1 ht)) ev_c (rv_ne rfl)))) (by show (false || !decide (V.int 2 = V.int 2)) = false; rfl)) (fun h => nomatch h) fun _ H2 e2 => ?_
    -- if not all([is_within(part, 0, many - 1) for part in parts])
    have in1 : ∀ (i : Nat) (x : V), [V.int (a : Int), .int (b : Int)][i]? = some x → ∃ n : Nat, x = .int (n : Int) ∧ n < m ∧ (i = 0 → n = a) ∧ (i = 1 → n = b) := by
      intro i x hx
      match i, hx with
      | 0, hx => exact ⟨a, (Option.some.inj hx).symm, by omega, fun _ => rfl, fun z => by cases z⟩
      | 1, hx => exact ⟨b, (Option.some.inj hx).symm, by omega, (fun z => by cases z), fun _ => rfl⟩
      | _ + 2, hx => simp at hx
    have e12 := e1.trans e2
    refine q_when (b := !true) (et_not (et_B (ev_is (ev_all (bs := (List.range 2).map fun _ => true) ?_) rfl))) (fun h => nomatch h) fun _ H3 e3 => ?_
    · rw [← bl_map]
      refine el_mapT (fun _ => V.bl true) (ev_var rfl) (ex_t e12 ht) (by show 2 ≤ 40000; decide) (fun _ => rfl) fun i x H3 e3 hx => ?_
      obtain ⟨n, rfl, hn, _, _⟩ := in1 i x hx
      refine ev_is (ev_cl (ea_cons (ev_var rfl) (ea_cons ev_c (ea_cons (ev_op (ev_var rfl) ev_c rv_I0) ea_nil))) sv_within) ?_
      have h1 : (0 : Int) ≤ (n : Int) := by omega
      have h2 : (n : Int) ≤ (m : Int) - 1 := by omega
      simp [h1, h2]
    have e13 := e12.trans e3
    -- lesser, greater = [number_of(part) for part in parts]
    have lc := el_mapT (K := K) (te := tCl (spNumber K) E0 (tCons (tVar 5) tNil)) (σ := [some (V.int (m : Int)), some (.ref t), some (.ref t), none, none, none]) (H := H3) (tl := tVar 2) (j := 5) (vs := [5]) (fun i => if i = 0 then V.int (a : Int) else V.int (b : Int)) (ev_var rfl) (ex_t e13 ht) (by show 2 ≤ 40000; decide) (fun _ => rfl) (fun i x H4 e4 hx => by
      obtain ⟨n, rfl, hn, h0, h1⟩ := in1 i x hx
      refine ev_is (ev_cl (ea_cons (ev_var rfl) ea_nil) sv_number) ?_
      have hi2 := (List.getElem?_eq_some_iff.mp hx).1
      have hi : i < 2 := hi2
      by_cases q : i = 0
      · rw [if_pos q, h0 q]
      · rw [if_neg q, h1 (by omega)])
    refine q_asgG lc fun l H4 _ e4 hl => ⟨l, _, rfl, sq_of hl, rfl, _, _, rfl, _, _, rfl, rfl, ?_⟩
    -- return (lesser, greater) if lesser < greater else None
    refine ⟨_, rfl, _, rfl, _, _, rfl, rfl, _, rfl, ?_⟩
    have hlt : (a : Int) < (b : Int) := by omega
    refine (decide_eq_true hlt).symm ▸ iteT ⟨_, rfl, _, rfl, (by show 2 ≤ sizeLine; decide), fun p hp => ?_⟩
    exact k p _ (fresh_back (e13.trans e4) hp) ((e13.trans e4).trans (Ex.new hp)) upd_same
end
end K15
end
section
set_option Elab.async false
set_option linter.all false
set_option maxRecDepth 100000
set_option maxHeartbeats 4000000
namespace K15
open PySem PySem.Spec PyProof.Rows L2 Lf Wm
open Evl
section
variable {P : Program} {w : World} {K : PySem.W.Frag} {mg : Str → Option Value} {base : Heap}
theorem c_pairs_of (D : Df K mg "pairs_of" s_pairs_of ["many", "thing"]) (T : TxtB K mg) (c_list_of : Cal P w K mg base CX0 1 "list_of" (spList K)) (c_pair_of : Cal P w K mg base CX0 3 "pair_of" (spPair K)) (c_rises : Cal P w K mg base CX0 1 "rises" (spRises K)) :
    Cal P w K mg base CX0 4 "pairs_of" (spPairs K) := by
  refine D.cal sc_pairs_of (fun vs H Q E h => ?_) (fun f cdv A outer s H vs Q E g hr h => ?_)
  · obtain ⟨v, m, ps, rfl, _⟩ := h
    rfl
  · obtain ⟨v, m, ps, rfl, hd, hg, k⟩ := h
    obtain ⟨a, xs, rfl, hx, hlen, hi⟩ := dPs_list hd
    have few := hg.few
    refine ⟨_, (pss_cons (ps_set (i := 2) sc_pairs_of.nd rfl (Or.inl rfl) (ec c_list_of g hr (by decide) pass0 (by rfl) (pa_cons (pv 1) pa_nil)))
    (pss_cons (ps_if (pt_cmpR op_isN (pv 2) pe_non (nomark _)) (pss_one (ps_ret pe_non)) pss_nil)
    (pss_cons (ps_setLc (i := 3) (own := [("each", 4)]) (g := (gName 4)) (tt := tYes) (by rfl) sc_pairs_of.nd rfl rfl (sw_true rfl rfl rfl (by decide +kernel)) (k_list (K := K) rfl (pv 2)) (blkOk_by (own := [("each", 4)]) (N := ns_pairs_of) (sc := defScope s_pairs_of) (by decide +kernel)) (fun _ _ _ _ _ => (pg_name (i := 4) sc_pairs_of.nd rfl (Or.inl rfl))) (fun _ _ _ _ _ => pts_nil) (fun _ _ _ _ _ => (ec c_pair_of g hr (by decide) pass0 (by rfl) (pa_cons (pv 0) (pa_cons (pv 4) pa_nil)))))
    (pss_one (ps_ret (pe_ifExp (PW.pt (pw_and (pt_cmpR (kop (K := K) (r := rNotInD) (op_notInD (u65 hr)) rfl) pe_non (pv 3) rfl) (pw_and1 (pt_val (ec c_rises g hr (by decide) pass0 (by rfl) (pa_cons (pv 3) pa_nil)))))) (pv 3) pe_non)))))), ?_⟩
    -- things = list_of(thing)
    refine q_asgL (el_cl (ea_cons (ev_var rfl) ea_nil) (fun H1 e Q q E => ⟨a, xs, rfl, ex_l e hx, q⟩)) fun l H1 _ e1 hl => ?_
    -- if things is None
    refine q_when (b := false) (et_test (ev_op (ev_var rfl) ev_c (z := .bl false) (rv_val fun H e Q q => ⟨rfl, q⟩))) (fun h => nomatch h) fun _ H2 e2 => ?_
    have hl2 := e2 _ _ hl
    have e12 := e1.trans e2
    -- pairs = [pair_of(many, each) for each in things]
    refine ⟨_, rfl, l, rfl, ⟨_, sq_of hl2⟩, fun D hD => lc_list (xs := xs) (fun i H' => Ex H2 H' ∧ ∃ ws, H' D = some (.lst ws) ∧ PairsIn H' ws (ps.take i)) ⟨Ex.new hD, [], upd_same, PairsIn.nil _⟩ (fun i H' _ p => sq_of (p.1 _ _ hl2)) ?_ ?_⟩
    · rintro i x H' hxi ⟨e3, ws, hw, hp⟩
      obtain ⟨p, t, hpi, rfl, ht⟩ := hi i x hxi
      obtain ⟨h1, h2⟩ := hg.lt p (List.mem_of_getElem? hpi)
      have hil : i < ps.length := (List.getElem?_eq_some_iff.mp hpi).1
      refine ⟨rfl, _, rfl, _, rfl, t, m, p.1, p.2, rfl, ex_t (e12.trans e3) ht, h1, h2, fun q H4 hq e4 hq4 => ?_⟩
      have hw4 := e4 _ _ hw
      have hws : ws.length = i := by rw [hp.1, List.length_take]; omega
      refine ⟨ws, hw4, sz_lt (by omega), Ex.mut (e3.trans e4) hD, ws ++ [.ref q], upd_same, ?_⟩
      have et : ps.take (i + 1) = ps.take i ++ [p] := by rw [List.take_add_one, hpi]; rfl
      rw [et]
      exact ((hp.ex e4).snoc hq4).upd hw4
    · rintro H3 ⟨e3, ws, hw, hp⟩
      rw [hlen, List.take_length] at hp
      have hdp : Dp K H3 (.ref D) (dPs ps) := hp.dp (sq_of hw)
      have e13 := e12.trans e3
      -- return pairs if None not in pairs and rises(pairs) else None
      refine ⟨_, rfl, .none, _, .non, hdp, rfl, (sh_dPs ps).shaped (by decide), !false, ?_, iteT ⟨_, rfl, _, ps, rfl, hdp, few, fun H4 e4 => ⟨true, ?_, iteT ⟨_, rfl, k D ws H4 (e13.trans e4) (fresh_back e12 hD) (e4 _ _ hw) (hp.ex e4)⟩⟩⟩⟩
      · rw [non_dPs]
      · rw [hg.rise]
theorem c_near_lists (D : Df K mg "near_lists" s_near_lists ["many", "pairs"]) (T : TxtB K mg) : Cal P w K mg base CX0 1 "near_lists" (spNear K) := by
  refine D.cal sc_near_lists (fun vs H Q E h => ?_) (fun f cdv A outer s H vs Q E g hr h => ?_)
  · obtain ⟨v, m, ps, rfl, _⟩ := h
    rfl
  · obtain ⟨v, m, ps, rfl, hd, hg, k⟩ := h
    obtain ⟨a, xs, rfl, hx, hlen, hi⟩ := dPs_list hd
    have few := hg.few
    have m10 := hg.m10
    refine ⟨_, (pss_cons (ps_setLc (i := 2) (own := [("_", 5)]) (g := (gName 5)) (tt := tYes) (by rfl) sc_near_lists.nd rfl rfl (sw_true rfl rfl rfl (by decide +kernel)) (pi_range1 (by rfl) T.n_range (pa_cons (pv 0) pa_nil)) (blkOk_by (own := [("_", 5)]) (N := ns_near_lists) (sc := defScope s_near_lists) (by decide +kernel)) (fun _ _ _ _ _ => (pg_name (i := 5) sc_near_lists.nd rfl (Or.inl rfl))) (fun _ _ _ _ _ => pts_nil) (fun _ _ _ _ _ => (pe_lst pa_nil)))
    (pss_cons (ps_for PassesOwn.never rfl (k_list (K := K) rfl (pv 1)) (k_gtup (K := K) rfl (by rfl) (pgs_cons (pg_name (i := 3) sc_near_lists.nd rfl (Or.inl rfl)) (pgs_cons (pg_name (i := 4) sc_near_lists.nd rfl (Or.inl rfl)) pgs_nil))) (pss_cons (ps_expr (k_bm (K := K) rfl PySem.F.plainAttrs_list PySem.F.slot_list_append PySem.F.type_list_append mt_append (pe_ix (kix (K := K) (r := rIxL) ix_list rfl) (pv 2) (pv 3) (fun _ _ => rfl)) (pa_cons (pv 4) pa_nil)))
        (pss_one (ps_expr (k_bm (K := K) rfl PySem.F.plainAttrs_list PySem.F.slot_list_append PySem.F.type_list_append mt_append (pe_ix (kix (K := K) (r := rIxL) ix_list rfl) (pv 2) (pv 4) (fun _ _ => rfl)) (pa_cons (pv 3) pa_nil))))))
    (pss_one (ps_ret (pv 2))))), ?_⟩
    -- near = [[] for _ in range(many)]
    refine ⟨_, rfl, (m : Int), rfl, by omega, by omega, fun N hN => lc_range (lo := 0) (n := (m : Int).toNat) (fun i H' => Ex H H' ∧ ∃ ws, H' N = some (.lst ws) ∧ RowsIn H' ws (List.replicate i []) ∧ ∀ (j : Nat) (t : Addr), ws[j]? = some (.ref t) → H t = none ∧ t ≠ N) ⟨Ex.new hN, [], upd_same, ⟨rfl, fun i row h => by simp at h, fun i j t h => by simp at h⟩, fun j t h => by simp at h⟩ ?_ ?_⟩
    · rintro i H' hi2 ⟨e1, ws, hw, hrow, hfr⟩
      have hws : ws.length = i := by rw [hrow.1, List.length_replicate]
      refine ⟨rfl, Nat.zero_le _, fun q hq => ?_⟩
      have nqN : N ≠ q := ne_of_none hw hq
      have hwq : (upd H' q (.lst [])) N = some (.lst ws) := by rw [upd_ne nqN]; exact hw
      refine ⟨ws, hwq, sz_lt (by omega), Ex.mut (e1.trans (Ex.new hq)) hN, ws ++ [.ref q], upd_same, ⟨?_, ?_, ?_⟩, ?_⟩
      · rw [List.length_append, List.length_replicate, hws]
        rfl
      · intro j row hj
        rw [List.getElem?_replicate] at hj
        by_cases hji : j < i + 1
        · rw [if_pos hji] at hj
          cases hj
          by_cases hj2 : j < i
          · obtain ⟨t, h1, h2⟩ := hrow.2.1 j [] (by rw [List.getElem?_replicate, if_pos hj2])
            refine ⟨t, by rw [List.getElem?_append_left (by omega)]; exact h1, ?_⟩
            rw [upd_ne (hfr j t h1).2, upd_ne (ne_of_none h2 hq)]
            exact h2
          · have ej : j = i := by omega
            subst ej
            refine ⟨q, by rw [List.getElem?_append_right (by omega), hws, Nat.sub_self]; rfl, ?_⟩
            rw [upd_ne nqN.symm, upd_same]
            rfl
        · rw [if_neg hji] at hj
          cases hj
      · have old : ∀ (j : Nat) (t : Addr), (ws ++ [V.ref q])[j]? = some (.ref t) → (j < i ∧ ws[j]? = some (.ref t)) ∨ (j = i ∧ t = q) := by
          intro j t hj
          by_cases hj2 : j < i
          · rw [List.getElem?_append_left (by omega)] at hj
            exact .inl ⟨hj2, hj⟩
          · rw [List.getElem?_append_right (by omega)] at hj
            have hl1 := (List.getElem?_eq_some_iff.mp hj).1
            have ej : j = i := by simp at hl1; omega
            subst ej
            rw [hws, Nat.sub_self] at hj
            cases hj
            exact .inr ⟨rfl, rfl⟩
        have ne : ∀ (j : Nat) (t : Addr), j < i → ws[j]? = some (.ref t) → t ≠ q := by
          intro j t hj h1
          obtain ⟨u, h2, h3⟩ := hrow.2.1 j [] (by rw [List.getElem?_replicate, if_pos hj])
          rw [h1] at h2
          cases h2
          exact ne_of_none h3 hq
        intro j1 j2 t h1 h2
        rcases old j1 t h1 with ⟨a1, b1⟩ | ⟨a1, b1⟩ <;> rcases old j2 t h2 with ⟨a2, b2⟩ | ⟨a2, b2⟩
        · exact hrow.2.2 j1 j2 t b1 b2
        · exact absurd b2 (ne j1 t a1 b1)
        · exact absurd b1 (ne j2 t a2 b2)
        · omega
      · intro j t hj
        by_cases hj2 : j < i
        · rw [List.getElem?_append_left (by omega)] at hj
          exact hfr j t hj
        · rw [List.getElem?_append_right (by omega)] at hj
          have hl1 := (List.getElem?_eq_some_iff.mp hj).1
          have ej : j = i := by simp at hl1; omega
          subst ej
          rw [hws, Nat.sub_self] at hj
          cases hj
          exact ⟨fresh_back e1 hq, nqN.symm⟩
    · rintro H1 ⟨e1, ws, hw, hrow, hfr⟩
      have em : (m : Int).toNat = m := Int.toNat_natCast m
      rw [em] at hrow
      -- for lesser, greater in pairs
      refine ⟨_, rfl, a, rfl, ⟨_, ex_l e1 hx⟩, for_list (xs := xs) (fun i σ H' => ∃ o3 o4, σ = [some (.int (m : Int)), some (.ref a), some (.ref N), o3, o4, none] ∧ Ex H H' ∧ H' N = some (.lst ws) ∧ RowsIn H' ws (rowsUpto m ps i)) ⟨none, none, rfl, e1, hw, by rw [rows_zero]; exact hrow⟩ (fun i σ H' _ ⟨_, _, _, e, _⟩ => ex_l e hx) ?_ ?_⟩
      · rintro i x σ H' hxi ⟨o3, o4, rfl, e2, hw2, hr2⟩
        obtain ⟨⟨pa, pb⟩, t, hpi, rfl, ht⟩ := hi i x hxi
        obtain ⟨h1, h2⟩ := hg.lt _ (List.mem_of_getElem? hpi)
        have h1 : pa < pb := h1
        have h2 : pb < m := h2
        have hra : (rowsUpto m ps i)[pa]? = some (rowOf (ps.take i) pa) := by
          unfold rowsUpto
          rw [List.getElem?_map, List.getElem?_range (by omega)]
          rfl
        have hrb : (rowsUpto m ps i)[pb]? = some (rowOf (ps.take i) pb) := by
          unfold rowsUpto
          rw [List.getElem?_map, List.getElem?_range h2]
          rfl
        obtain ⟨ta, ga, la⟩ := hr2.2.1 pa _ hra
        obtain ⟨tb, gb, lb⟩ := hr2.2.1 pb _ hrb
        have small : ∀ j, (rowOf (ps.take i) j).length < sizeLine := fun j => by
          refine sz_lt ?_
          have q1 : (rowOf (ps.take i) j).length ≤ (ps.take i).length := List.length_filterMap_le ..
          rw [List.length_take] at q1
          omega
        refine ⟨t, _, rfl, ex_t e2 ht, rfl, _, _, rfl, _, _, rfl, rfl, ?_⟩
        -- near[lesser].append(greater)
        refine ⟨_, rfl, _, rfl, N, ws, _, .ref ta, rfl, rfl, sq_of hw2, atI_nat ga, .inl ⟨rfl, _, sq_of la⟩, _, rfl, ta, _, _, rfl, rfl, la, (by rw [vN_len]; exact small pa), ?_⟩
        have step1 := hr2.put (n := pb) hra ga
        have nNa : N ≠ ta := ((hfr pa ta ga).2).symm
        have nNb : N ≠ tb := ((hfr pb tb gb).2).symm
        have hw3 : (upd H' ta (.lst (vN (rowOf (ps.take i) pa) ++ [.int (pb : Int)]))) N = some (.lst ws) := by rw [upd_ne nNa]; exact hw2
        have hrb3 : ((rowsUpto m ps i).set pa (rowOf (ps.take i) pa ++ [pb]))[pb]? = some (rowOf (ps.take i) pb) := by
          rw [List.getElem?_set_ne (by omega)]
          exact hrb
        obtain ⟨tb2, gb2, lb3⟩ := step1.2.1 pb _ hrb3
        rw [gb] at gb2
        cases gb2
        -- near[greater].append(lesser)
        refine ⟨_, rfl, _, rfl, N, ws, _, .ref tb, rfl, rfl, sq_of hw3, atI_nat gb, .inl ⟨rfl, _, sq_of lb3⟩, _, rfl, tb, _, _, rfl, rfl, lb3, (by rw [vN_len]; exact small pb), ?_⟩
        have step2 := step1.put (n := pa) hrb3 gb
        rw [rows_step hpi h1 h2] at step2
        have ha0 : H ta = none := (hfr pa ta ga).1
        have hb0 : H tb = none := (hfr pb tb gb).1
        exact ⟨_, _, rfl, Ex.mut (Ex.mut e2 ha0) hb0, by rw [upd_ne nNb]; exact hw3, step2⟩
      · rintro σ H2 ⟨o3, o4, rfl, e2, hw2, hr2⟩
        rw [hlen, near_all] at hr2
        exact ⟨_, rfl, k N ws H2 e2 hN hw2 hr2 fun i t h => (hfr i t h).1⟩
end
end K15
end
section
set_option Elab.async false
set_option linter.all false
set_option maxRecDepth 100000
set_option maxHeartbeats 4000000
namespace K15
open PySem PySem.Spec PyProof.Rows L2 Lf Wm
open Evl
abbrev s_Web__init : Stmt := inClass (topS 14) 0
abbrev ns_Web__init : List Str := ["self", "many", "pairs"]
theorem sc_Web__init : FnScope ns_Web__init ["self", "many", "pairs"] (defScope s_Web__init) := ⟨rfl, rfl, rfl, by decide +kernel, rfl, by decide +kernel, by decide +kernel⟩
abbrev s_Web_many : Stmt := inClass (topS 14) 1
abbrev ns_Web_many : List Str := ["self"]
theorem sc_Web_many : FnScope ns_Web_many ["self"] (defScope s_Web_many) := ⟨rfl, rfl, rfl, by decide +kernel, rfl, by decide +kernel, by decide +kernel⟩
abbrev s_Web_clash : Stmt := inClass (topS 14) 4
abbrev ns_Web_clash : List Str := ["self", "one", "other"]
theorem sc_Web_clash : FnScope ns_Web_clash ["self", "one", "other"] (defScope s_Web_clash) := ⟨rfl, rfl, rfl, by decide +kernel, rfl, by decide +kernel, by decide +kernel⟩
abbrev s_Web_slots : Stmt := inClass (topS 14) 5
abbrev ns_Web_slots : List Str := ["self"]
theorem sc_Web_slots : FnScope ns_Web_slots ["self"] (defScope s_Web_slots) := ⟨rfl, rfl, rfl, by decide +kernel, rfl, by decide +kernel, by decide +kernel⟩
abbrev s_Web_known : Stmt := inClass (topS 14) 8
abbrev ns_Web_known : List Str := ["self", "thing", "at"]
theorem sc_Web_known : FnScope ns_Web_known ["self", "thing", "at"] (defScope s_Web_known) := ⟨rfl, rfl, rfl, by decide +kernel, rfl, by decide +kernel, by decide +kernel⟩
abbrev s_Web_clashes : Stmt := inClass (topS 14) 9
abbrev ns_Web_clashes : List Str := ["self", "one", "other"]
theorem sc_Web_clashes : FnScope ns_Web_clashes ["self", "one", "other"] (defScope s_Web_clashes) := ⟨rfl, rfl, rfl, by decide +kernel, rfl, by decide +kernel, by decide +kernel⟩
abbrev s_Web_touches : Stmt := inClass (topS 14) 10
abbrev ns_Web_touches : List Str := ["self", "place", "places", "near"]
theorem sc_Web_touches : FnScope ns_Web_touches ["self", "place", "places"] (defScope s_Web_touches) := ⟨rfl, rfl, rfl, by decide +kernel, rfl, by decide +kernel, by decide +kernel⟩
structure TxtF (K : PySem.W.Frag) (mg : Str → Option Value) (C : Addr) : Prop where
  cl : Cls K C
  nM : NoAttr K C "_many"
  nP : NoAttr K C "_pairs"
  nN : NoAttr K C "_near"
  n_FEWEST : ∃ u, mg "FEWEST" = some u ∧ RelV (.int 2) u
  n_MOST : ∃ u, mg "MOST" = some u ∧ RelV (.int 10) u
  n_range : mg "range" = none
  n_any : mg "any" = none
  n_list : mg "list" = none
def spWebInit (K : PySem.W.Frag) (C : Addr) : Sp := fun vs H Q _ => ∃ (H0 : Hp) (x dx : Addr) (m : Nat) (v : V) (ps : PS), vs = [.ref x, .int m, v] ∧ Dp K H0 v (dPs ps) ∧ Good m ps ∧ Ex H0 H ∧ H0 x = none ∧ H x = some (.ins C dx []) ∧ ∀ H', Ex H0 H' → WebNew C H0 H' x m ps → Q .non H'
def spMany (K : PySem.W.Frag) (C : Addr) : Sp := fun vs H Q _ => ∃ p m ps, vs = [.ref p] ∧ WebAt K C H p m ps ∧ RetV (.int (m : Int)) H Q
def spKnown (K : PySem.W.Frag) (C : Addr) : Sp := fun vs H Q _ => ∃ (p : Addr) (m : Nat) (ps : PS) (i : Nat) (at_ : Int), vs = [.ref p, .int i, .int at_] ∧ WebAt K C H p m ps ∧ i < m ∧ RetV (.int (i : Int)) H Q
def spTouch (K : PySem.W.Frag) (C : Addr) : Sp := fun vs H Q _ => ∃ (p t : Addr) (m : Nat) (ps : PS) (i : Nat) (row : List Nat), vs = [.ref p, .int i, .ref t] ∧ WebAt K C H p m ps ∧ i < m ∧ SqL K H t (vN row) ∧ RetV (.bl ((rowOf ps i).any fun x => decide (x ∈ row))) H Q
def spClash (K : PySem.W.Frag) (C : Addr) : Sp := fun vs H Q _ => ∃ (p : Addr) (m : Nat) (ps : PS) (i j : Nat), vs = [.ref p, .int i, .int j] ∧ WebAt K C H p m ps ∧ i < m ∧ j < m ∧ RetV (.bl (clash ps i j)) H Q
def spSlots (K : PySem.W.Frag) (C : Addr) : Sp := fun vs H Q _ => ∃ (p : Addr) (m : Nat) (ps : PS), vs = [.ref p] ∧ WebAt K C H p m ps ∧ RetL (vN (slotsUpto ps m)) H Q
section
variable {P : Program} {w : World} {K : PySem.W.Frag} {mg : Str → Option Value} {base : Heap} {C : Addr}
theorem c_Web (D : Md K C "__init__" "Web.__init__" s_Web__init ["self", "many", "pairs"]) (hm : mg "Web" = some (.ref C)) (M : ∀ f, Meth K C "__init__" f → Mk K C f) (T : TxtF K mg C) (c_number_of : Cal P w K mg base CX0 1 "number_of" (spNumber K)) (c_is_within : Cal P w K mg base CX0 2 "is_within" (spWithin K))
    (c_pairs_of : Cal P w K mg base CX0 4 "pairs_of" (spPairs K)) (c_near_lists : Cal P w K mg base CX0 1 "near_lists" (spNear K)) : Mak P w K mg base CX0 5 "Web" C (spWebInit K C) := by
  refine D.mak hm M sc_Web__init (fun vs H Q E h => ?_) (fun f cdv A outer s H vs Q E g hr h => ?_)
  · obtain ⟨H0, x, dx, m, v, ps, rfl, _⟩ := h
    rfl
  · obtain ⟨H0, x, dx, m, v, ps, rfl, hd, hg, e0, x0, hx, k⟩ := h
    have m2 := hg.m2
    have m10 := hg.m10
    refine ⟨_, (pss_cons (ps_if (pt_not (pt_val (ec c_is_within g hr (by decide) pass0 (by rfl) (pa_cons (pv 1) (pa_cons (C8.pe_gc (by rfl) T.n_FEWEST) (pa_cons (C8.pe_gc (by rfl) T.n_MOST) pa_nil)))))) (pss_one ps_never) pss_nil)
    (pss_cons (ps_fld (pv 0) (ec c_number_of g hr (by decide) pass0 (by rfl) (pa_cons (pv 1) pa_nil)) rfl)
    (pss_cons (ps_fld (pv 0) (ec c_pairs_of g hr (by decide) pass0 (by rfl) (pa_cons (k_fld (K := K) rfl (pv 0) rfl) (pa_cons (pv 2) pa_nil))) rfl)
    (pss_cons (ps_if (pt_cmpR op_isN (k_fld (K := K) rfl (pv 0) rfl) pe_non (nomark _)) (pss_one ps_never) pss_nil)
    (pss_one (ps_fld (pv 0) (ec c_near_lists g hr (by decide) pass0 (by rfl) (pa_cons (k_fld (K := K) rfl (pv 0) rfl) (pa_cons (k_fld (K := K) rfl (pv 0) rfl) pa_nil))) rfl)))))), ?_⟩
    refine q_when (b := !true) (et_not (et_B (ev_is (ev_cl (ea_cons (ev_var rfl) (ea_cons ev_c (ea_cons ev_c ea_nil))) sv_within) (by
      have h1 : (2 : Int) ≤ (m : Int) := by omega
      have h2 : (m : Int) ≤ 10 := by omega
      rw [decide_eq_true h1, decide_eq_true h2]
      rfl)))) (fun h => nomatch h) fun _ H1 e1 => ?_
    -- self._many = number_of(many)
    refine ⟨_, rfl, _, _, rfl, .int K _ _, fun H2 e2 => ⟨_, rfl, x, C, dx, _, rfl, e2 _ _ (e1 _ _ hx), T.cl, T.nM, (by show 0 < 1000; decide), ?_⟩⟩
    have g2 : Ex H0 H2 := (e0.trans e1).trans e2
    have g3 : Ex H0 (upd H2 x (.ins C dx (putF "_many" (optV (some (m : Int))) []))) := Ex.mut g2 x0
    -- self._pairs = pairs_of(self._many, pairs)
    refine ⟨_, rfl, x, C, dx, _, _, rfl, upd_same, T.cl, T.nM, rfl, _, rfl, v, m, ps, rfl, Dp.ex hd g3, hg, fun a1 ws1 H4 e4 f1 la1 p1 => ⟨_, rfl, x, C, dx, _, rfl, e4 _ _ upd_same, T.cl, T.nP, (by show 1 < 1000; decide), ?_⟩⟩
    have g4 : Ex H0 H4 := g3.trans e4
    have hx4 : H4 x = some (.ins C dx (putF "_many" (optV (some (m : Int))) [])) := e4 _ _ upd_same
    have hdA : Dp K (upd H4 x (.ins C dx (putF "_pairs" (.ref a1) (putF "_many" (optV (some (m : Int))) [])))) (.ref a1) (dPs ps) := dp_ins hx4 _ _ (p1.dp (sq_of la1))
    have g5 : Ex H0 (upd H4 x (.ins C dx (putF "_pairs" (.ref a1) (putF "_many" (optV (some (m : Int))) [])))) := Ex.mut g4 x0
    -- if self._pairs is None
    refine ⟨_, rfl, x, C, dx, _, _, rfl, upd_same, T.cl, T.nP, rfl, rfl, _, rfl, ?_⟩
    -- self._near = near_lists(self._many, self._pairs)
    refine ⟨_, rfl, x, C, dx, _, _, rfl, upd_same, T.cl, T.nM, rfl, _, rfl, x, C, dx, _, _, rfl, upd_same, T.cl, T.nP, rfl, .ref a1, m, ps, rfl, hdA, hg, fun a2 ws2 H6 e6 f2 la2 r2 fr2 => ⟨_, rfl, x, C, dx, _, rfl, e6 _ _ upd_same, T.cl, T.nN, (by show 2 < 1000; decide), ?_⟩⟩
    have hx6 : H6 x = some (.ins C dx (putF "_pairs" (.ref a1) (putF "_many" (optV (some (m : Int))) []))) := e6 _ _ upd_same
    have n1 : a1 ≠ x := ne_of la1 hx4 (by intro z; cases z)
    have n2 : a2 ≠ x := ne_of la2 hx6 (by intro z; cases z)
    have la16 : H6 a1 = some (.lst ws1) := e6 _ _ (by rw [upd_ne n1]; exact la1)
    have p16 : PairsIn (upd H6 x (.ins C dx (putF "_near" (.ref a2) (putF "_pairs" (.ref a1) (putF "_many" (optV (some (m : Int))) []))))) ws1 ps := (((p1.ins hx4).ex e6).ins hx6)
    refine k _ (Ex.mut (g5.trans e6) x0) ⟨hg, dx, a1, a2, ws1, ws2, ?_, by rw [upd_ne n1]; exact la16, by rw [upd_ne n2]; exact la2, p16, r2.ins hx6, x0, fresh_back g3 f1, fresh_back g5 f2, fun i t h => fresh_back g5 (fr2 i t h)⟩
    rw [upd_same, ← webF_put]
    rfl
theorem c_many (D : Md K C "many" "Web.many" s_Web_many ["self"]) (T : TxtF K mg C) : Met P w K mg base CX0 1 C "many" (spMany K C) := by
  refine D.met T.cl sc_Web_many (fun vs H Q E h => ?_) (fun f cdv A outer s H vs Q E g hr h => ?_)
  · obtain ⟨p, m, ps, rfl, _⟩ := h
    rfl
  · obtain ⟨p, m, ps, rfl, ⟨hg, dx, a1, a2, hp, h1, h2⟩, k⟩ := h
    refine ⟨_, (pss_one (ps_ret (k_fld (K := K) rfl (pv 0) rfl))), ?_⟩
    exact s_ret (ev_fld (ev_var rfl) hp T.cl T.nM (webF_many m a1 a2)) k
theorem c_known (D : Md K C "_known" "Web._known" s_Web_known ["self", "thing", "at"]) (T : TxtF K mg C) (c_number_of : Cal P w K mg base CX0 1 "number_of" (spNumber K)) (c_is_within : Cal P w K mg base CX0 2 "is_within" (spWithin K)) : Met P w K mg base CX0 3 C "_known" (spKnown K C) := by
  refine D.met T.cl sc_Web_known (fun vs H Q E h => ?_) (fun f cdv A outer s H vs Q E g hr h => ?_)
  · obtain ⟨p, m, ps, i, at_, rfl, _⟩ := h
    rfl
  · obtain ⟨p, m, ps, i, at_, rfl, ⟨hg, dx, a1, a2, hp, h1, h2⟩, hi, k⟩ := h
    refine ⟨_, (pss_cons (ps_if (pt_not (pt_val (ec c_is_within g hr (by decide) pass0 (by rfl) (pa_cons (pv 1) (pa_cons pe_int (pa_cons (pe_op op_sub (k_fld (K := K) rfl (pv 0) rfl) pe_int) pa_nil)))))) (pss_one ps_never) pss_nil)
    (pss_one (ps_ret (ec c_number_of g hr (by decide) pass0 (by rfl) (pa_cons (pv 1) pa_nil))))), ?_⟩
    refine q_when (b := !true) (et_not (et_B (ev_is (ev_cl (ea_cons (ev_var rfl) (ea_cons ev_c (ea_cons (ev_op (ev_fld (ev_var rfl) hp T.cl T.nM (webF_many m a1 a2)) ev_c rv_I0) ea_nil))) sv_within) (by
      have q1 : (0 : Int) ≤ (i : Int) := by omega
      have q2 : (i : Int) ≤ (m : Int) - 1 := by omega
      rw [decide_eq_true q1, decide_eq_true q2]
      rfl)))) (fun h => nomatch h) fun _ H1 e1 => ?_
    exact s_ret (ev_cl (ea_cons (ev_var rfl) ea_nil) sv_number) (fun H2 e2 => k _ (e1.trans e2))
theorem c_touches (D : Md K C "_touches" "Web._touches" s_Web_touches ["self", "place", "places"]) (T : TxtF K mg C) : Met P w K mg base CX0 1 C "_touches" (spTouch K C) := by
  refine D.met T.cl sc_Web_touches (fun vs H Q E h => ?_) (fun f cdv A outer s H vs Q E g hr h => ?_)
  · obtain ⟨p, t, m, ps, i, row, rfl, _⟩ := h
    rfl
  · obtain ⟨p, t, m, ps, i, row, rfl, ⟨hg, dx, a1, a2, hp, h1, h2⟩, hi, ht, k⟩ := h
    obtain ⟨a, xs, e, hx, hlen, hrow⟩ := dNs_list h2
    cases e
    obtain ⟨u, hu, hu2⟩ := hrow i _ (nearOf_get hi)
    have few : (rowOf ps i).length ≤ 1000 := Nat.le_trans (List.length_filterMap_le ..) hg.few
    refine ⟨_, (pss_one (ps_ret (pe_callB (kcr (K := K) (r := rAny) (cr_any rfl) rfl) (by rfl) T.n_any (by decide +kernel) (pa_cons (pe_lc (own := [("near", 3)]) (g := (gName 3)) (tt := tYes) (by rfl) sc_Web_touches.nd (k_list (K := K) rfl (pe_ix (kix (K := K) (r := rIxL) ix_list rfl) (k_fld (K := K) rfl (pv 0) rfl) (pv 1) (fun _ _ => rfl))) (blkOk_by (own := [("near", 3)]) (N := ns_Web_touches) (sc := defScope s_Web_touches) (by decide +kernel)) (fun _ _ _ _ _ => (pg_name (i := 3) sc_Web_touches.nd rfl (Or.inl rfl))) (fun _ _ _ _ _ => pts_nil) (fun _ _ _ _ _ => (pe_cmpR (kop (K := K) (r := fun K => rIn K false) op_in_seq rfl) (pv 3) (pv 2) rfl))) pa_nil)))), ?_⟩
    have bs : (rowOf ps i).any (fun x => decide (x ∈ row)) = ((List.range (vN (rowOf ps i)).length).map fun j => decide ((rowOf ps i).getD j 0 ∈ row)).any id := by
      rw [vN_len, List.any_map, any_getD]
      rfl
    rw [bs] at k
    refine s_ret (ev_any ?_) k
    rw [← bl_map]
    refine el_map _ (ev_op (ev_fld (ev_var rfl) hp T.cl T.nN (webF_near m a1 a2)) (ev_var rfl) (rv_ixL hx (atI_nat hu))) hu2 (by rw [vN_len]; omega) (fun _ => rfl) fun j x H1 e1 hj => ?_
    obtain ⟨n, rfl, hn⟩ := vN_at hj
    refine ev_is (ev_op (ev_var rfl) (ev_var rfl) (rv_isL (ex_l e1 ht) rfl (vN_flat row))) ?_
    rw [inV_nat, List.getD_eq_getElem?_getD, hn]
    rfl
end
end K15
end
section
set_option Elab.async false
set_option linter.all false
set_option maxRecDepth 100000
set_option maxHeartbeats 4000000
namespace K15
open PySem PySem.Spec PyProof.Rows L2 Lf Wm
open Evl
section
variable {P : Program} {w : World} {K : PySem.W.Frag} {mg : Str → Option Value} {base : Heap} {C : Addr}
theorem no_m {m : Nat} {a1 a2 : Addr} {x : Str} (h1 : (decide (x = "_many") || decide (x = "_pairs") || decide (x = "_near")) = false) : (webF m a1 a2).lookup x = none := by
  simp only [Bool.or_eq_false_iff, decide_eq_false_iff_not] at h1
  exact webF_no m a1 a2 h1.1.1 h1.1.2 h1.2
theorem getD_int {ns : List Int} {i : Nat} (h : i < ns.length) : (ns.map V.int)[i]? = some (.int (ns.getD i 0)) := by
  rw [List.getElem?_map, List.getD_eq_getElem?_getD, List.getElem?_eq_getElem h]
  rfl
end
end K15
end
section
set_option Elab.async false
set_option linter.all false
set_option maxRecDepth 100000
set_option maxHeartbeats 4000000
namespace K15
open PySem PySem.Spec PyProof.Rows L2 Lf Wm
open Evl
abbrev s_web : Stmt := topS 24
abbrev ns_web : List Str := ["_law_bag_here", "_law_most", "_law_many", "_law_way", "_law_seldom", "_law_pairs", "_law_one", "_law_other", "_law_row", "_law_ring", "_law_star"]
theorem sc_web : FnScope ns_web ["_law_bag_here", "_law_most"] (defScope s_web) := ⟨rfl, rfl, rfl, by decide +kernel, rfl, by decide +kernel, by decide +kernel⟩
abbrev s_near : Stmt := topS 25
abbrev ns_near : List Str := ["_law_many", "_law_pairs", "_law_near_here", "_law_one", "_law_other", "_law_place", "_law_row"]
theorem sc_near : FnScope ns_near ["_law_many", "_law_pairs"] (defScope s_near) := ⟨rfl, rfl, rfl, by decide +kernel, rfl, by decide +kernel, by decide +kernel⟩
abbrev s_clash : Stmt := topS 26
abbrev ns_clash : List Str := ["_law_near_here", "_law_one", "_law_other", "_law_both", "_law_third"]
theorem sc_clash : FnScope ns_clash ["_law_near_here", "_law_one", "_law_other"] (defScope s_clash) := ⟨rfl, rfl, rfl, by decide +kernel, rfl, by decide +kernel, by decide +kernel⟩
def spBag (K : PySem.W.Frag) : Sp := fun vs H Q _ => ∃ (a : Addr) (ns : List Int), vs = [.ref a] ∧ SqL K H a (ns.map V.int) ∧ ns.length ≤ 63 ∧ ∀ (b : Addr × Addr) (H' : Hp), Ex H H' → H b.1 = none → Bag H' b → Q (.ref b.1) H'
def spLWeb : Sp := fun vs H Q _ => ∃ (b : Addr × Addr), vs = [.ref b.1, .int 10] ∧ Bag H b ∧ ∀ (t a : Addr) (m : Nat) (ps : PS) (ws : List V) (H' : Hp), Good m ps → Step b H H' → H t = none → H' t = some (.tup [.int (m : Int), .ref a]) → H a = none → H' a = some (.lst ws) → PairsIn H' ws ps → Q (.ref t) H'
structure TxtH (K : PySem.W.Frag) (mg : Str → Option Value) : Prop where
  n_abs : mg "abs" = none
  n_range : mg "range" = none
  n_sorted : mg "sorted" = none
section
variable {P : Program} {w : World} {K : PySem.W.Frag} {mg : Str → Option Value} {base : Heap}
theorem c_bag (D : Df K mg "_law_bag" s_bag ["_law_script"]) (T : TxtH K mg) : Cal P w K mg base CX0 1 "_law_bag" (spBag K) := by
  refine D.cal sc_bag (fun vs H Q E h => ?_) (fun f cdv A outer s H vs Q E g hr h => ?_)
  · obtain ⟨a, ns, rfl, _⟩ := h
    rfl
  · obtain ⟨a, ns, rfl, hx, hl, k⟩ := h
    refine ⟨_, (pss_one (ps_ret (pe_lst (pa_cons pe_int (pa_cons pe_int (pa_cons pe_int (pa_cons (pe_lc (own := [("_law_cell", 1)]) (g := (gName 1)) (tt := tYes) (by rfl) sc_bag.nd (k_list (K := K) rfl (pe_slice (ksl (K := K) (r := rSlL) sl_list rfl) (pv 0) po_none (po_some pe_int))) (blkOk_by (own := [("_law_cell", 1)]) (N := ns_bag) (sc := defScope s_bag) (by decide +kernel)) (fun _ _ _ _ _ => (pg_name (i := 1) sc_bag.nd rfl (Or.inl rfl))) (fun _ _ _ _ _ => pts_nil) (fun _ _ _ _ _ => (pe_callB call_abs (by rfl) T.n_abs (by decide +kernel) (pa_cons (pv 1) pa_nil)))) pa_nil))))))), ?_⟩
    have cut : ∃ ms : List Int, cutV (ns.map V.int) none (some 63) = ms.map V.int ∧ ms.length ≤ 63 := by
      refine ⟨(ns.drop (HT.sIx (ns.map V.int).length 0 none)).take (HT.sIx (ns.map V.int).length (ns.map V.int).length (some 63) - HT.sIx (ns.map V.int).length 0 none), ?_, ?_⟩
      · unfold cutV
        rw [List.map_take, List.map_drop]
      · rw [List.length_take, List.length_drop]
        omega
    obtain ⟨ms, e1, hms⟩ := cut
    have sl : EvL (tSl (rSlL K) (tVar 0) tNoPart (tPart (tC (.int 63)))) [some (V.ref a), none] H (ms.map V.int) := by
      rw [← e1]
      exact el_sl (ev_var rfl) eo_none (eo_some ev_c) hx
    have lc := el_lcNL (K := K) (t := tYes) (te := tCB (fun xs H Q => ∃ i, xs = [V.int i] ∧ Q (.int (if i < 0 then -i else i)) H) (tCons (tVar 1) tNil)) (j := 1) (vs := [1]) (fun _ => true) (fun i => V.int (if ms.getD i 0 < 0 then -ms.getD i 0 else ms.getD i 0)) sl (by rw [List.length_map]; omega) (fun _ => rfl) (fun _ _ _ _ _ => yes_ok) (fun i x H1 e1 hi _ => by
      have hil : i < ms.length := by
        have := (List.getElem?_eq_some_iff.mp hi).1
        rw [List.length_map] at this
        exact this
      rw [getD_int hil] at hi
      cases hi
      exact ev_cb (ea_cons (ev_var rfl) ea_nil) (fun H2 e2 Q q => ⟨_, rfl, q H2 (Ex.refl _)⟩))
    rw [given_all] at lc
    refine s_retLst4 lc fun c H1 c0 e2 hc p hp => ?_
    refine k (p, c) _ (e2.trans (Ex.new hp)) (fresh_back e2 hp) ⟨0, 1234567891, 0, (List.range ms.length).map fun i => if ms.getD i 0 < 0 then -ms.getD i 0 else ms.getD i 0, upd_same, ?_, by decide, by decide, by decide, ?_⟩
    · rw [upd_ne (ne_of_none hc hp), hc, List.length_map, List.map_map]
      rfl
    · intro n hn
      obtain ⟨i, _, rfl⟩ := List.mem_map.mp hn
      split <;> omega
theorem c_web (D : Df K mg "_law_web" s_web ["_law_bag_here", "_law_most"]) (T : TxtH K mg) (c_take : Cal P w K mg base CX0 1 "_law_take" spTake) : Cal P w K mg base CX0 2 "_law_web" spLWeb := by
  refine D.cal sc_web (fun vs H Q E h => ?_) (fun f cdv A outer s H vs Q E g hr h => ?_)
  · obtain ⟨b, rfl, _⟩ := h
    rfl
  · obtain ⟨b, rfl, hb, k⟩ := h
    refine ⟨_, (pss_cons (ps_set (i := 2) sc_web.nd rfl (Or.inl rfl) (pe_op op_add pe_int (ec c_take g hr (by decide) pass0 (by rfl) (pa_cons (pv 0) (pa_cons (pe_op op_sub (pv 1) pe_int) pa_nil)))))
    (pss_cons (ps_set (i := 3) sc_web.nd rfl (Or.inl rfl) (ec c_take g hr (by decide) pass0 (by rfl) (pa_cons (pv 0) (pa_cons pe_int pa_nil))))
    (pss_cons (ps_set (i := 4) sc_web.nd rfl (Or.inl rfl) (pe_ix (kix (K := K) (r := rIxL) ix_list rfl) (pe_lst (pa_cons pe_int (pa_cons pe_int (pa_cons pe_int (pa_cons pe_int (pa_cons pe_int (pa_cons pe_int pa_nil))))))) (pv 3) (fun _ _ => rfl)))
    (pss_cons (ps_set (i := 5) sc_web.nd rfl (Or.inl rfl) (pe_lst pa_nil))
    (pss_cons (ps_for PassesOwn.never rfl (pi_range1 (by rfl) T.n_range (pa_cons (pv 2) pa_nil)) (pg_name (i := 6) sc_web.nd rfl (Or.inl rfl)) (pss_one (ps_for PassesOwn.never rfl (pi_range2 (by rfl) T.n_range (pa_cons (pe_op op_add (pv 6) pe_int) (pa_cons (pv 2) pa_nil))) (pg_name (i := 7) sc_web.nd rfl (Or.inl rfl)) (pss_cons (ps_set (i := 8) sc_web.nd rfl (Or.inl rfl) (pe_and (pe_cmpR op_eq (pv 7) (pe_op op_add (pv 6) pe_int) (nomark _)) (pe_one (pe_cmpR op_lt (pv 3) pe_int (nomark _)))))
            (pss_cons (ps_set (i := 9) sc_web.nd rfl (Or.inl rfl) (pe_and (pe_cmpR op_eq (pv 3) pe_int (nomark _)) (pe_one (pe_cmpR (kop (K := K) (r := rEqD) (op_eqD hr.units) rfl) (pe_tup (pa_cons (pv 6) (pa_cons (pv 7) pa_nil))) (pe_tup (pa_cons pe_int (pa_cons (pe_op op_sub (pv 2) pe_int) pa_nil))) (nomark _)))))
            (pss_cons (ps_set (i := 10) sc_web.nd rfl (Or.inl rfl) (pe_and (pe_cmpR op_eq (pv 3) pe_int (nomark _)) (pe_one (pe_cmpR op_eq (pv 6) pe_int (nomark _)))))
            (pss_one (ps_if (PW.pt (pw_or (pt_val (pv 8)) (pw_or (pt_val (pv 9)) (pw_or (pt_val (pv 10)) (pw_or1 (pt_cmpR op_eq (ec c_take g hr (by decide) pass0 (by rfl) (pa_cons (pv 0) (pa_cons (pv 4) pa_nil))) pe_int (nomark _))))))) (pss_one (ps_expr (k_bm (K := K) rfl PySem.F.plainAttrs_list PySem.F.slot_list_append PySem.F.type_list_append mt_append (pv 5) (pa_cons (pe_tup (pa_cons (pv 6) (pa_cons (pv 7) pa_nil))) pa_nil)))) pss_nil))))))))
    (pss_one (ps_ret (pe_tup (pa_cons (pv 2) (pa_cons (pv 5) pa_nil)))))))))), ?_⟩
    -- many = 2 + take(bag, most - 1)
    refine ⟨_, rfl, _, rfl, _, _, rfl, rfl, b, _, rfl, hb, ⟨by decide, by decide⟩, fun v H1 v0 v1 b1 s1 => ⟨2, v, rfl, rfl, ?_⟩⟩
    obtain ⟨n, rfl⟩ := Int.eq_ofNat_of_zero_le v0
    have hn : n < 9 := by have : (n : Int) < 10 - 1 := v1; omega
    have em : (2 : Int) + (n : Int) = ((n + 2 : Nat) : Int) := by omega
    show gName 2 (V.int ((2 : Int) + (n : Int))) _ H1 _
    rw [em]
    have hm2 : 2 ≤ n + 2 := by omega
    have hm10 : n + 2 ≤ 10 := by omega
    generalize n + 2 = m at *
    -- way = take(bag, 6)
    refine ⟨_, rfl, b, 6, rfl, b1, ⟨by decide, by decide⟩, fun way H2 w0 w1 b2 s2 => ?_⟩
    have t2 : Step b H H2 := (Step.draw b1 s1).trans (.draw b2 s2)
    -- seldom
    obtain ⟨sd, hsd, sd2, sd9⟩ := seldom_at w0 w1
    refine ⟨(by show 6 ≤ sizeLine; decide), fun p hp => ⟨_, rfl, p, _, way, _, rfl, rfl, sq_of upd_same, hsd, ?_⟩⟩
    have t3 := t2.trans (Step.pure b2 (Ex.new hp (o := .lst [V.int 9, V.int 9, V.int 3, V.int 5, V.int 9, V.int 2])))
    -- pairs = []
    refine ⟨Nat.zero_le _, fun l hl => ?_⟩
    have t4 := t3.trans (Step.pure t3.1 (Ex.new hl (o := .lst [])))
    have l0 : H l = none := t3.free hl
    -- the loops
    refine q_forR1 (n := (m : Int)) (ea_cons (ev_var rfl) ea_nil) ⟨by omega, by omega⟩ (fun i σ' H' => ∃ o6 o7 o8 o9 o10 ws ps, σ' = [some (.ref b.1), some (.int 10), some (.int (m : Int)), some (.int way), some (.int sd), some (.ref l), o6, o7, o8, o9, o10] ∧ Step b H H' ∧ H' l = some (.lst ws) ∧ PairsIn H' ws ps ∧ ps.Pairwise lt2 ∧ (∀ p ∈ ps, p.1 < p.2 ∧ p.2 < m ∧ p.1 < i) ∧ ps.length ≤ 10 * i)
      (fun H5 e5 => ⟨none, none, none, none, none, [], [], rfl, t4.trans (.pure t4.1 e5), e5 _ _ upd_same, PairsIn.nil _, .nil, (fun p hp => by cases hp), Nat.le_refl _⟩) ?_ ?_
    · rintro i σ' H' hi ⟨o6, o7, o8, o9, o10, ws, ps, rfl, t5, hw, hp, pw, hlt, hlen⟩
      have him : i < m := by omega
      refine s_forR2 (lo := (i : Int) + 1) (n := (m : Int)) (ea_cons (ev_op (ev_var rfl) ev_c rv_I0) (ea_cons (ev_var rfl) ea_nil)) ⟨by omega, by omega, by omega, by omega⟩ (fun k σ' H' => ∃ o7 o8 o9 o10 ws ps, σ' = [some (.ref b.1), some (.int 10), some (.int (m : Int)), some (.int way), some (.int sd), some (.ref l), some (.int (i : Int)), o7, o8, o9, o10] ∧ Step b H H' ∧ H' l = some (.lst ws) ∧ PairsIn H' ws ps ∧ ps.Pairwise lt2 ∧ (∀ p ∈ ps, p.1 < p.2 ∧ p.2 < m ∧ (p.1 < i ∨ (p.1 = i ∧ p.2 < i + 1 + k))) ∧ ps.length ≤ 10 * i + k)
        (fun H5 e5 => ⟨o7, o8, o9, o10, ws, ps, rfl, t5.trans (.pure t5.1 e5), e5 _ _ hw, hp.ex e5, pw, fun p hp => ⟨(hlt p hp).1, (hlt p hp).2.1, .inl (hlt p hp).2.2⟩, by omega⟩) ?_ ?_
      · rintro k σ' H' hk ⟨o7, o8, o9, o10, ws, ps, rfl, t6, hw, hp, pw, hlt, hlen⟩
        have ej : (i : Int) + 1 + (k : Int) = ((i + 1 + k : Nat) : Int) := by omega
        rw [ej]
        have hjm : i + 1 + k < m := by omega
        generalize hj : i + 1 + k = j at *
        -- row
        refine q_asg (ev_andV (ev_op (ev_var rfl) (ev_op (ev_var rfl) ev_c rv_I0) (rv_eq rfl)) (fun _ => ev_op (ev_var rfl) ev_c rv_I0)) fun H7 e7 => ?_
        -- ring
        refine q_asg (ev_andV (ev_op (ev_var rfl) ev_c (rv_eq rfl)) (fun _ => ev_opUU (eu_tup (ea_cons (ev_var rfl) (ea_cons (ev_var rfl) ea_nil)) (by show 2 ≤ 100000; decide)) (eu_tup (ea_cons ev_c (ea_cons (ev_op (ev_var rfl) ev_c rv_I0) ea_nil)) (by show 2 ≤ 100000; decide))
          (z := .bl (PyData.eqv (.tuple [.int (i : Int), .int (j : Int)]) (.tuple [.int 0, .int ((m : Int) - 1)]))) (fun p q H1 hp hq _ => rv_val fun H2 e2 Q k => ⟨_, _, .tup (st_of (e2 _ _ hp)) (.cons (.int _) (.cons (.int _) .nil)), .tup (st_of (e2 _ _ hq)) (.cons (.int _) (.cons (.int _) .nil)), rfl, rfl, k⟩))) fun H8 e8 => ?_
        -- star
        refine q_asg (ev_andV (ev_op (ev_var rfl) ev_c (rv_eq rfl)) (fun _ => ev_op (ev_var rfl) ev_c (rv_eq rfl))) fun H9 e9 => ?_
        have e79 := (e7.trans e8).trans e9
        have t9 := t6.trans (.pure t6.1 e79)
        -- if row or ring or star or take(bag, seldom) == 0
        refine s_any (b := b) (tany_or (tany_ev t9.1 (et_B (ev_var rfl))) fun H10 s10 => tany_or (tany_ev s10.1 (et_B (ev_var rfl))) fun H11 s11 => tany_or (tany_ev s11.1 (et_B (ev_var rfl))) fun H12 s12 => tany_take s12.1 rfl rfl ⟨by omega, by omega⟩) fun H10 s10 => ?_
        have nl : l ≠ b.1 := hb.ne l0
        have t10 := t9.trans s10
        have hw10 := s10.at nl (e79 _ _ hw)
        have hp10 := (hp.ex e79).step t9.1 s10
        have hws : ws.length = ps.length := hp.1
        constructor
        · refine ⟨_, rfl, .inl ⟨rfl, _, sq_of hw10⟩, _, rfl, _, rfl, (by show 2 ≤ sizeLine; decide), fun q hq => ?_⟩
          have nlq : l ≠ q := ne_of_none hw10 hq
          have hwq : (upd H10 q (.tup [.int (i : Int), .int (j : Int)])) l = some (.lst ws) := by rw [upd_ne nlq]; exact hw10
          refine ⟨l, ws, .ref q, rfl, rfl, hwq, sz_lt (by omega), ?_⟩
          refine ⟨_, _, _, _, _, ps ++ [(i, j)], rfl, (t10.trans (.pure t10.1 (Ex.new hq))).put hb l0, upd_same, ((hp10.ex (Ex.new hq)).snoc (p := (i, j)) upd_same).upd hwq, ?_, ?_, ?_⟩
          · rw [List.pairwise_append]
            refine ⟨pw, List.pairwise_singleton .., fun p hpm x hx => ?_⟩
            rw [List.mem_singleton.mp hx]
            rcases (hlt p hpm).2.2 with z | ⟨z1, z2⟩
            · exact .inl z
            · exact .inr ⟨z1, z2⟩
          · intro p hpm
            rcases List.mem_append.mp hpm with z | z
            · obtain ⟨z1, z2, z3⟩ := hlt p z
              exact ⟨z1, z2, z3.imp id fun ⟨w1, w2⟩ => ⟨w1, by omega⟩⟩
            · rw [List.mem_singleton.mp z]
              exact ⟨by show i < j; omega, hjm, .inr ⟨rfl, by show j < _; omega⟩⟩
          · rw [List.length_append, List.length_singleton]
            omega
        · exact ⟨_, _, _, _, ws, ps, rfl, t10, hw10, hp10, pw, fun p hpm => ⟨(hlt p hpm).1, (hlt p hpm).2.1, (hlt p hpm).2.2.imp id fun ⟨w1, w2⟩ => ⟨w1, by omega⟩⟩, by omega⟩
      · rintro σ' H' ⟨o7, o8, o9, o10, ws, ps, rfl, t6, hw, hp, pw, hlt, hlen⟩
        exact ⟨_, _, _, _, _, ws, ps, rfl, t6, hw, hp, pw, fun p hpm => ⟨(hlt p hpm).1, (hlt p hpm).2.1, by have := (hlt p hpm).2.2; omega⟩, by omega⟩
    · rintro σ' H' ⟨o6, o7, o8, o9, o10, ws, ps, rfl, t5, hw, hp, pw, hlt, hlen⟩
      rw [Int.toNat_natCast] at hlt hlen
      refine ⟨_, rfl, _, rfl, (by show 2 ≤ sizeLine; decide), fun q hq => ?_⟩
      have nlq : l ≠ q := ne_of_none hw hq
      refine k q l m ps ws _ ⟨hm2, hm10, fun p hpm => ⟨(hlt p hpm).1, (hlt p hpm).2.1⟩, pw, by omega⟩ (t5.trans (.pure t5.1 (Ex.new hq))) (t5.free hq) upd_same l0 (by rw [upd_ne nlq]; exact hw) (hp.ex (Ex.new hq))
end
end K15
end
section
set_option Elab.async false
set_option linter.all false
set_option maxRecDepth 100000
set_option maxHeartbeats 4000000
namespace K15
open PySem PySem.Spec PyProof.Rows L2 Lf Wm
open Evl
def spLClash (K : PySem.W.Frag) : Sp := fun vs H Q _ => ∃ (v : V) (m : Nat) (ps : PS) (i j : Nat), vs = [v, .int i, .int j] ∧ Dp K H v (dNs (nearOf m ps)) ∧ Good m ps ∧ i < m ∧ j < m ∧ RetV (.bl (clash ps i j)) H Q
section
variable {P : Program} {w : World} {K : PySem.W.Frag} {mg : Str → Option Value} {base : Heap}
theorem c_near (D : Df K mg "_law_near" s_near ["_law_many", "_law_pairs"]) (T : TxtH K mg) : Cal P w K mg base CX0 1 "_law_near" (spNear K) := by
  refine D.cal sc_near (fun vs H Q E h => ?_) (fun f cdv A outer s H vs Q E g hr h => ?_)
  · obtain ⟨v, m, ps, rfl, _⟩ := h
    rfl
  · obtain ⟨v, m, ps, rfl, hd, hg, k⟩ := h
    obtain ⟨a, xs, rfl, hx, hlen, hi⟩ := dPs_list hd
    have few := hg.few
    have m10 := hg.m10
    refine ⟨_, (pss_cons (ps_setLc (i := 2) (own := [("_law_place", 5)]) (g := (gName 5)) (tt := tYes) (by rfl) sc_near.nd rfl rfl (sw_true rfl rfl rfl (by decide +kernel)) (pi_range1 (by rfl) T.n_range (pa_cons (pv 0) pa_nil)) (blkOk_by (own := [("_law_place", 5)]) (N := ns_near) (sc := defScope s_near) (by decide +kernel)) (fun _ _ _ _ _ => (pg_name (i := 5) sc_near.nd rfl (Or.inl rfl))) (fun _ _ _ _ _ => pts_nil) (fun _ _ _ _ _ => (pe_lst pa_nil)))
    (pss_cons (ps_for PassesOwn.never rfl (k_list (K := K) rfl (pv 1)) (k_gtup (K := K) rfl (by rfl) (pgs_cons (pg_name (i := 3) sc_near.nd rfl (Or.inl rfl)) (pgs_cons (pg_name (i := 4) sc_near.nd rfl (Or.inl rfl)) pgs_nil))) (pss_cons (ps_expr (k_bm (K := K) rfl PySem.F.plainAttrs_list PySem.F.slot_list_append PySem.F.type_list_append mt_append (pe_ix (kix (K := K) (r := rIxL) ix_list rfl) (pv 2) (pv 3) (fun _ _ => rfl)) (pa_cons (pv 4) pa_nil)))
        (pss_one (ps_expr (k_bm (K := K) rfl PySem.F.plainAttrs_list PySem.F.slot_list_append PySem.F.type_list_append mt_append (pe_ix (kix (K := K) (r := rIxL) ix_list rfl) (pv 2) (pv 4) (fun _ _ => rfl)) (pa_cons (pv 3) pa_nil))))))
    (pss_one (ps_ret (pe_lc (own := [("_law_row", 6)]) (g := (gName 6)) (tt := tYes) (by rfl) sc_near.nd (k_list (K := K) rfl (pv 2)) (blkOk_by (own := [("_law_row", 6)]) (N := ns_near) (sc := defScope s_near) (by decide +kernel)) (fun _ _ _ _ _ => (pg_name (i := 6) sc_near.nd rfl (Or.inl rfl))) (fun _ _ _ _ _ => pts_nil) (fun _ _ _ _ _ => (pe_callB (kcr (K := K) (r := rSortedI) cr_sortedI rfl) (by rfl) T.n_sorted (by decide +kernel) (pa_cons (pv 6) pa_nil)))))))), ?_⟩
    -- near = [[] for _ in range(many)]
    refine ⟨_, rfl, (m : Int), rfl, by omega, by omega, fun N hN => lc_range (lo := 0) (n := (m : Int).toNat) (fun i H' => Ex H H' ∧ ∃ ws, H' N = some (.lst ws) ∧ RowsIn H' ws (List.replicate i []) ∧ ∀ (j : Nat) (t : Addr), ws[j]? = some (.ref t) → H t = none ∧ t ≠ N) ⟨Ex.new hN, [], upd_same, ⟨rfl, fun i row h => by simp at h, fun i j t h => by simp at h⟩, fun j t h => by simp at h⟩ ?_ ?_⟩
    · rintro i H' hi2 ⟨e1, ws, hw, hrow, hfr⟩
      have hws : ws.length = i := by rw [hrow.1, List.length_replicate]
      refine ⟨rfl, Nat.zero_le _, fun q hq => ?_⟩
      have nqN : N ≠ q := ne_of_none hw hq
      have hwq : (upd H' q (.lst [])) N = some (.lst ws) := by rw [upd_ne nqN]; exact hw
      refine ⟨ws, hwq, sz_lt (by omega), Ex.mut (e1.trans (Ex.new hq)) hN, ws ++ [.ref q], upd_same, ⟨?_, ?_, ?_⟩, ?_⟩
      · rw [List.length_append, List.length_replicate, hws]
        rfl
      · intro j row hj
        rw [List.getElem?_replicate] at hj
        by_cases hji : j < i + 1
        · rw [if_pos hji] at hj
          cases hj
          by_cases hj2 : j < i
          · obtain ⟨t, h1, h2⟩ := hrow.2.1 j [] (by rw [List.getElem?_replicate, if_pos hj2])
            refine ⟨t, by rw [List.getElem?_append_left (by omega)]; exact h1, ?_⟩
            rw [upd_ne (hfr j t h1).2, upd_ne (ne_of_none h2 hq)]
            exact h2
          · have ej : j = i := by omega
            subst ej
            refine ⟨q, by rw [List.getElem?_append_right (by omega), hws, Nat.sub_self]; rfl, ?_⟩
            rw [upd_ne nqN.symm, upd_same]
            rfl
        · rw [if_neg hji] at hj
          cases hj
      · have old : ∀ (j : Nat) (t : Addr), (ws ++ [V.ref q])[j]? = some (.ref t) → (j < i ∧ ws[j]? = some (.ref t)) ∨ (j = i ∧ t = q) := by
          intro j t hj
          by_cases hj2 : j < i
          · rw [List.getElem?_append_left (by omega)] at hj
            exact .inl ⟨hj2, hj⟩
          · rw [List.getElem?_append_right (by omega)] at hj
            have hl1 := (List.getElem?_eq_some_iff.mp hj).1
            have ej : j = i := by simp at hl1; omega
            subst ej
            rw [hws, Nat.sub_self] at hj
            cases hj
            exact .inr ⟨rfl, rfl⟩
        have ne : ∀ (j : Nat) (t : Addr), j < i → ws[j]? = some (.ref t) → t ≠ q := by
          intro j t hj h1
          obtain ⟨u, h2, h3⟩ := hrow.2.1 j [] (by rw [List.getElem?_replicate, if_pos hj])
          rw [h1] at h2
          cases h2
          exact ne_of_none h3 hq
        intro j1 j2 t h1 h2
        rcases old j1 t h1 with ⟨a1, b1⟩ | ⟨a1, b1⟩ <;> rcases old j2 t h2 with ⟨a2, b2⟩ | ⟨a2, b2⟩
        · exact hrow.2.2 j1 j2 t b1 b2
        · exact absurd b2 (ne j1 t a1 b1)
        · exact absurd b1 (ne j2 t a2 b2)
        · omega
      · intro j t hj
        by_cases hj2 : j < i
        · rw [List.getElem?_append_left (by omega)] at hj
          exact hfr j t hj
        · rw [List.getElem?_append_right (by omega)] at hj
          have hl1 := (List.getElem?_eq_some_iff.mp hj).1
          have ej : j = i := by simp at hl1; omega
          subst ej
          rw [hws, Nat.sub_self] at hj
          cases hj
          exact ⟨fresh_back e1 hq, nqN.symm⟩
    · rintro H1 ⟨e1, ws, hw, hrow, hfr⟩
      have em : (m : Int).toNat = m := Int.toNat_natCast m
      rw [em] at hrow
      -- for lesser, greater in pairs
      refine ⟨_, rfl, a, rfl, ⟨_, ex_l e1 hx⟩, for_list (xs := xs) (fun i σ H' => ∃ o3 o4, σ = [some (.int (m : Int)), some (.ref a), some (.ref N), o3, o4, none, none] ∧ Ex H H' ∧ H' N = some (.lst ws) ∧ RowsIn H' ws (rowsUpto m ps i)) ⟨none, none, rfl, e1, hw, by rw [rows_zero]; exact hrow⟩ (fun i σ H' _ ⟨_, _, _, e, _⟩ => ex_l e hx) ?_ ?_⟩
      · rintro i x σ H' hxi ⟨o3, o4, rfl, e2, hw2, hr2⟩
        obtain ⟨⟨pa, pb⟩, t, hpi, rfl, ht⟩ := hi i x hxi
        obtain ⟨h1, h2⟩ := hg.lt _ (List.mem_of_getElem? hpi)
        have h1 : pa < pb := h1
        have h2 : pb < m := h2
        have hra : (rowsUpto m ps i)[pa]? = some (rowOf (ps.take i) pa) := by
          unfold rowsUpto
          rw [List.getElem?_map, List.getElem?_range (by omega)]
          rfl
        have hrb : (rowsUpto m ps i)[pb]? = some (rowOf (ps.take i) pb) := by
          unfold rowsUpto
          rw [List.getElem?_map, List.getElem?_range h2]
          rfl
        obtain ⟨ta, ga, la⟩ := hr2.2.1 pa _ hra
        obtain ⟨tb, gb, lb⟩ := hr2.2.1 pb _ hrb
        have small : ∀ j, (rowOf (ps.take i) j).length < sizeLine := fun j => by
          refine sz_lt ?_
          have q1 : (rowOf (ps.take i) j).length ≤ (ps.take i).length := List.length_filterMap_le ..
          rw [List.length_take] at q1
          omega
        refine ⟨t, _, rfl, ex_t e2 ht, rfl, _, _, rfl, _, _, rfl, rfl, ?_⟩
        -- near[lesser].append(greater)
        refine ⟨_, rfl, _, rfl, N, ws, _, .ref ta, rfl, rfl, sq_of hw2, atI_nat ga, .inl ⟨rfl, _, sq_of la⟩, _, rfl, ta, _, _, rfl, rfl, la, (by rw [vN_len]; exact small pa), ?_⟩
        have step1 := hr2.put (n := pb) hra ga
        have nNa : N ≠ ta := ((hfr pa ta ga).2).symm
        have nNb : N ≠ tb := ((hfr pb tb gb).2).symm
        have hw3 : (upd H' ta (.lst (vN (rowOf (ps.take i) pa) ++ [.int (pb : Int)]))) N = some (.lst ws) := by rw [upd_ne nNa]; exact hw2
        have hrb3 : ((rowsUpto m ps i).set pa (rowOf (ps.take i) pa ++ [pb]))[pb]? = some (rowOf (ps.take i) pb) := by
          rw [List.getElem?_set_ne (by omega)]
          exact hrb
        obtain ⟨tb2, gb2, lb3⟩ := step1.2.1 pb _ hrb3
        rw [gb] at gb2
        cases gb2
        -- near[greater].append(lesser)
        refine ⟨_, rfl, _, rfl, N, ws, _, .ref tb, rfl, rfl, sq_of hw3, atI_nat gb, .inl ⟨rfl, _, sq_of lb3⟩, _, rfl, tb, _, _, rfl, rfl, lb3, (by rw [vN_len]; exact small pb), ?_⟩
        have step2 := step1.put (n := pa) hrb3 gb
        rw [rows_step hpi h1 h2] at step2
        have ha0 : H ta = none := (hfr pa ta ga).1
        have hb0 : H tb = none := (hfr pb tb gb).1
        exact ⟨_, _, rfl, Ex.mut (Ex.mut e2 ha0) hb0, by rw [upd_ne nNb]; exact hw3, step2⟩
      · rintro σ H2 ⟨o3, o4, rfl, e2, hw2, hr2⟩
        rw [hlen, near_all] at hr2
        have hN2 : H2 N = some (.lst ws) := hw2
        have hlen2 : ws.length = m := by rw [hr2.1]; unfold nearOf; rw [List.length_map, List.length_range]
        refine ⟨_, rfl, N, rfl, ⟨_, sq_of hN2⟩, fun D hD => lc_list (xs := ws) (fun i H' => Ex H2 H' ∧ ∃ us, H' D = some (.lst us) ∧ RowsIn H' us ((nearOf m ps).take i) ∧ ∀ (j : Nat) (t : Addr), us[j]? = some (.ref t) → H2 t = none ∧ t ≠ D) ⟨Ex.new hD, [], upd_same, ⟨rfl, fun i row h => by simp at h, fun i j t h => by simp at h⟩, fun j t h => by simp at h⟩ (fun i H' _ p => sq_of (p.1 _ _ hN2)) ?_ ?_⟩
        · rintro i x H' hxi ⟨e3, us, hu, hr3, hf3⟩
          have him : i < m := by rw [← hlen2]; exact (List.getElem?_eq_some_iff.mp hxi).1
          obtain ⟨t, h1, h2⟩ := hr2.2.1 i _ (nearOf_get him)
          rw [hxi] at h1
          cases h1
          have vi : vN (rowOf ps i) = ((rowOf ps i).map fun n : Nat => (n : Int)).map V.int := by
            unfold vN
            rw [List.map_map]
            rfl
          refine ⟨rfl, _, rfl, t, (rowOf ps i).map fun n : Nat => (n : Int), rfl, by rw [← vi]; exact sq_of (e3 _ _ h2), fun ns q hp hs hq => ?_⟩
          have en := sorted_row hg hp hs
          have nDq : D ≠ q := ne_of_none hu hq
          have hus : us.length = i := by rw [hr3.1, List.length_take]; unfold nearOf; rw [List.length_map, List.length_range]; omega
          have et : (nearOf m ps).take (i + 1) = (nearOf m ps).take i ++ [rowOf ps i] := by rw [List.take_add_one, nearOf_get him]; rfl
          have hnot := hr3.notnew hq
          refine ⟨us, by rw [upd_ne nDq]; exact hu, sz_lt (by omega), Ex.mut (e3.trans (Ex.new hq)) hD, us ++ [.ref q], upd_same, ?_, ?_⟩
          · rw [et]
            have r4 : RowsIn (upd H' q (.lst (ns.map V.int))) (us ++ [.ref q]) ((nearOf m ps).take i ++ [rowOf ps i]) := (hr3.updD hnot).snoc (by rw [upd_same, en, vi]) hnot
            refine r4.updD fun j hj => ?_
            by_cases hjl : j < us.length
            · rw [List.getElem?_append_left hjl] at hj
              exact (hf3 j D hj).2 rfl
            · rw [List.getElem?_append_right (by omega)] at hj
              have e0 : j - us.length = 0 := by
                have := (List.getElem?_eq_some_iff.mp hj).1
                simp at this
                omega
              rw [e0] at hj
              cases hj
              exact nDq rfl
          · intro j t2 hj
            by_cases hjl : j < us.length
            · rw [List.getElem?_append_left hjl] at hj
              exact hf3 j t2 hj
            · rw [List.getElem?_append_right (by omega)] at hj
              have e0 : j - us.length = 0 := by
                have := (List.getElem?_eq_some_iff.mp hj).1
                simp at this
                omega
              rw [e0] at hj
              cases hj
              exact ⟨fresh_back e3 hq, nDq.symm⟩
        · rintro H3 ⟨e3, us, hu, hr3, hf3⟩
          rw [hlen2, List.take_of_length_le (by unfold nearOf; rw [List.length_map, List.length_range]; exact Nat.le_refl _)] at hr3
          exact k D us H3 (e2.trans e3) (fresh_back e2 hD) hu hr3 fun i t h => fresh_back e2 (hf3 i t h).1
theorem c_clash_law (D : Df K mg "_law_clash" s_clash ["_law_near_here", "_law_one", "_law_other"]) : Cal P w K mg base CX0 1 "_law_clash" (spLClash K) := by
  refine D.cal sc_clash (fun vs H Q E h => ?_) (fun f cdv A outer s H vs Q E g hr h => ?_)
  · obtain ⟨v, m, ps, i, j, rfl, _⟩ := h
    rfl
  · obtain ⟨v, m, ps, i, j, rfl, hd, hg, hi, hj, k⟩ := h
    obtain ⟨a, xs, rfl, hx, hlen, hrow⟩ := dNs_list hd
    obtain ⟨u, hu, hu2⟩ := hrow i _ (nearOf_get hi)
    obtain ⟨t, ht, ht2⟩ := hrow j _ (nearOf_get hj)
    have few : (rowOf ps i).length ≤ 1000 := Nat.le_trans (List.length_filterMap_le ..) hg.few
    refine ⟨_, (pss_cons (ps_if (pt_cmpR op_eq (pv 1) (pv 2) (nomark _)) (pss_one (ps_ret pe_bl)) pss_nil)
    (pss_cons (ps_setLc (i := 3) (own := [("_law_third", 4)]) (g := (gName 4)) (by rfl) sc_clash.nd rfl rfl (sw_true rfl rfl rfl (by decide +kernel)) (k_list (K := K) rfl (pe_ix (kix (K := K) (r := rIxL) ix_list rfl) (pv 0) (pv 1) (fun _ _ => rfl))) (blkOk_by (own := [("_law_third", 4)]) (N := ns_clash) (sc := defScope s_clash) (by decide +kernel)) (fun _ _ _ _ _ => (pg_name (i := 4) sc_clash.nd rfl (Or.inl rfl))) (fun _ _ _ _ _ => pts_one (pt_cmpR (kop (K := K) (r := fun K => rIn K false) op_in_seq rfl) (pv 4) (pe_ix (kix (K := K) (r := rIxL) ix_list rfl) (pv 0) (pv 2) (fun _ _ => rfl)) rfl)) (fun _ _ _ _ _ => (pv 4)))
    (pss_one (ps_ret (pe_or (pe_cmpR (kop (K := K) (r := fun K => rIn K false) op_in_seq rfl) (pv 2) (pe_ix (kix (K := K) (r := rIxL) ix_list rfl) (pv 0) (pv 1) (fun _ _ => rfl)) rfl) (pe_one (pe_cmpR (kop (K := K) (r := rNeD) (op_neD hr.units) rfl) (pv 3) (pe_lst pa_nil) (nomark _)))))))), ?_⟩
    refine q_when (et_test (ev_op (ev_var rfl) (ev_var rfl) (rv_eq rfl))) (fun hb H1 e1 => ?_) fun hb H1 e1 => ?_
    · have eij : i = j := by
        have := V.int.inj (of_decide_eq_true hb)
        omega
      subst eij
      refine s_ret ev_c fun H2 e2 => ?_
      have q : clash ps i i = false := by simp [clash]
      rw [q] at k
      exact k _ (e1.trans e2)
    · have nij : ¬ i = j := fun q => of_decide_eq_false hb (by rw [q])
      -- both
      refine q_asgL (xs := vN ((rowOf ps i).filter fun x => decide (x ∈ rowOf ps j))) ?_ fun l H2 _ e2 hl => ?_
      · have lc := el_lcL (K := K) (σ := [some (V.ref a), some (.int (i : Int)), some (.int (j : Int)), none, none]) (H := H1) (tl := tOp (rIxL K) (tVar 0) (tVar 1)) (j := 4) (vs := [4]) (t := tTest (tOp (rIn K false) (tVar 4) (tOp (rIxL K) (tVar 0) (tVar 2)))) (te := tVar 4) (fun n => decide ((rowOf ps i).getD n 0 ∈ rowOf ps j)) (fun n => V.int (((rowOf ps i).getD n 0 : Nat) : Int))
          (ev_op (ev_var rfl) (ev_var rfl) (rv_ixL (ex_l e1 hx) (atI_nat hu))) (ex_l e1 hu2) (by rw [vN_len]; omega) (fun _ => rfl)
          (fun n x H3 e3 hn => by
            obtain ⟨y, rfl, hy⟩ := vN_at hn
            refine et_test (ev_is (ev_op (ev_var rfl) (ev_op (ev_var rfl) (ev_var rfl) (rv_ixL (ex_l (e1.trans e3) hx) (atI_nat ht))) (rv_isL (ex_l (e1.trans e3) ht2) rfl (vN_flat _))) ?_)
            rw [inV_nat, List.getD_eq_getElem?_getD, hy]
            rfl)
          (fun n x H3 e3 hn _ => by
            obtain ⟨y, rfl, hy⟩ := vN_at hn
            refine ev_is (ev_var rfl) ?_
            rw [List.getD_eq_getElem?_getD, hy]
            rfl)
        rw [vN_len] at lc
        have gf := given_filter (rowOf ps i) (fun x => decide (x ∈ rowOf ps j))
        rw [← gf]
        exact lc
      · have e12 := e1.trans e2
        refine s_ret (v := .bl (clash ps i j)) (ev_is (ev_orV (a := adj ps i j) (b := touch ps i j) (ev_is (ev_op (ev_var rfl) (ev_op (ev_var rfl) (ev_var rfl) (rv_ixL (ex_l e12 hx) (atI_nat hu))) (rv_isL (ex_l e12 hu2) rfl (vN_flat _))) ?_) (fun _ => ?_)) ?_) fun H3 e3 => k _ (e12.trans e3)
        · rw [inV_nat]
          rfl
        · refine ev_opL (xs := []) (ev_var rfl) (el_lst ea_nil (Nat.zero_le _)) fun p H3 hp e3 => rv_val fun H4 e4 Q k => ⟨_, _, .lst (sq_of (e4 _ _ (e3 _ _ hl))) (vN_dps _), .lst (sq_of (e4 _ _ hp)) .nil, (sh_dN _).shaped (by decide), rfl, ?_⟩
          have q : (!PyData.eqv (dN ((rowOf ps i).filter fun x => decide (x ∈ rowOf ps j))) (.list [])) = touch ps i j := by
            rw [ne_nil]
            unfold touch
            rw [filter_any]
          unfold dN at q
          rw [q]
          exact k
        · simp [clash, nij]
end
end K15
end
section
set_option Elab.async false
set_option linter.all false
set_option maxRecDepth 100000
set_option maxHeartbeats 4000000
namespace K15
open PySem PySem.Spec PyProof.Rows L2 Lf Wm
open Evl
abbrev s_Web_distances : Stmt := inClass (topS 14) 6
abbrev ns_Web_distances : List Str := ["self", "living", "alive", "told", "edge", "steps", "place"]
theorem sc_Web_distances : FnScope ns_Web_distances ["self", "living"] (defScope s_Web_distances) := ⟨rfl, rfl, rfl, by decide +kernel, rfl, by decide +kernel, by decide +kernel⟩
abbrev s_Web_cut : Stmt := inClass (topS 14) 7
abbrev ns_Web_cut : List Str := ["self", "living", "far", "alive", "place"]
theorem sc_Web_cut : FnScope ns_Web_cut ["self", "living"] (defScope s_Web_cut) := ⟨rfl, rfl, rfl, by decide +kernel, rfl, by decide +kernel, by decide +kernel⟩
def spDist (K : PySem.W.Frag) (C : Addr) : Sp := fun vs H Q _ => ∃ (p a : Addr) (m : Nat) (ps : PS) (al : List Nat), vs = [.ref p, .ref a] ∧ WebAt K C H p m ps ∧ SqL K H a (vN al) ∧ al.length ≤ 1000 ∧ (∀ x ∈ al, x < m) ∧ RetL (farV m ps al) H Q
def spCut (K : PySem.W.Frag) (C : Addr) : Sp := fun vs H Q _ => ∃ (p a : Addr) (m : Nat) (ps : PS) (al : List Nat), vs = [.ref p, .ref a] ∧ WebAt K C H p m ps ∧ SqL K H a (vN al) ∧ al.length ≤ 1000 ∧ (∀ x ∈ al, x < m) ∧ RetL (vN (cutOf m ps al)) H Q
section
variable {P : Program} {w : World} {K : PySem.W.Frag} {mg : Str → Option Value} {base : Heap} {C : Addr}
theorem getD_nat {al : List Nat} {i : Nat} {x : V} (h : (vN al)[i]? = some x) : x = .int ((al.getD i 0 : Nat) : Int) ∧ i < al.length := by
  obtain ⟨n, rfl, hn⟩ := vN_at h
  rw [List.getD_eq_getElem?_getD, hn]
  exact ⟨rfl, (List.getElem?_eq_some_iff.mp hn).1⟩
theorem all_vN (al : List Nat) : (List.range (vN al).length).map (fun i => V.int ((al.getD i 0 : Nat) : Int)) = vN al := by
  refine List.ext_getElem? fun i => ?_
  by_cases q : i < al.length
  · rw [List.getElem?_map, vN_len, List.getElem?_range q, vN_get (List.getElem?_eq_getElem q)]
    show some (V.int ((al.getD i 0 : Nat) : Int)) = _
    rw [List.getD_eq_getElem?_getD, List.getElem?_eq_getElem q]
    rfl
  · rw [List.getElem?_eq_none (by simpa [vN_len] using q), List.getElem?_eq_none (by simpa [vN_len] using q)]
theorem el_nums {σ : L2.St} {H : Hp} {a : Addr} {al : List Nat} {tl : TE} {j : Nat} {vs : List Nat} (h : Ev tl σ H (.ref a)) (hx : SqL K H a (vN al)) (hz : al.length ≤ 1000) (hw : ∀ x, wipe ((wipe σ vs).set j (some x)) vs = wipe σ vs) (hv : ∀ x, ((wipe σ vs).set j (some x))[j]? = some (some x)) :
    EvL (tLc (iList K tl) (gName j) tYes (tCl (spNumber K) E0 (tCons (tVar j) tNil)) vs) σ H (vN al) := by
  have lc := el_map (K := K) (σ := σ) (H := H) (tl := tl) (te := tCl (spNumber K) E0 (tCons (tVar j) tNil)) (j := j) (vs := vs) (fun i => V.int ((al.getD i 0 : Nat) : Int)) h hx (by rw [vN_len]; omega) hw (fun i x H4 e4 hi => by
    obtain ⟨rfl, _⟩ := getD_nat hi
    exact ev_cl (ea_cons (ev_var (hv _)) ea_nil) sv_number)
  rw [all_vN] at lc
  exact lc
theorem c_distances (D : Md K C "distances" "Web.distances" s_Web_distances ["self", "living"]) (T : TxtF K mg C) (c_number_of : Cal P w K mg base CX0 1 "number_of" (spNumber K)) (c_Web_touches : Met P w K mg base CX0 1 C "_touches" (spTouch K C)) : Met P w K mg base CX0 2 C "distances" (spDist K C) := by
  refine D.met T.cl sc_Web_distances (fun vs H Q E h => ?_) (fun f cdv A outer s H vs Q E g hr h => ?_)
  · obtain ⟨p, a, m, ps, al, rfl, _⟩ := h
    rfl
  · obtain ⟨p, a, m, ps, al, rfl, hW, ha, hlen, hal, k⟩ := h
    have hW' := hW
    obtain ⟨hg, dx, c1, c2, hp, h1, h2⟩ := hW'
    have m2 := hg.m2
    have m10 := hg.m10
    have m0 : 0 < m := by omega
    refine ⟨_, (pss_cons (ps_setLc (i := 2) (own := [("place", 6)]) (g := (gName 6)) (tt := tYes) (by rfl) sc_Web_distances.nd rfl rfl (sw_true rfl rfl rfl (by decide +kernel)) (k_list (K := K) rfl (pv 1)) (blkOk_by (own := [("place", 6)]) (N := ns_Web_distances) (sc := defScope s_Web_distances) (by decide +kernel)) (fun _ _ _ _ _ => (pg_name (i := 6) sc_Web_distances.nd rfl (Or.inl rfl))) (fun _ _ _ _ _ => pts_nil) (fun _ _ _ _ _ => (ec c_number_of g hr (by decide) pass0 (by rfl) (pa_cons (pv 6) pa_nil))))
    (pss_cons (ps_set (i := 3) sc_Web_distances.nd rfl (Or.inr rfl) (pe_op op_rep (pe_lst (pa_cons pe_non pa_nil)) (k_fld (K := K) rfl (pv 0) rfl)))
    (pss_cons (ps_set (i := 4) sc_Web_distances.nd rfl (Or.inr rfl) (pe_lst (pa_cons pe_int pa_nil)))
    (pss_cons (ps_set (i := 5) sc_Web_distances.nd rfl (Or.inl rfl) pe_int)
    (pss_cons (ps_while PassesOwn.never (k_truth (K := K) rfl (pv 4) (by intro _; rfl)) (pss_cons (ps_for PassesOwn.never rfl (k_list (K := K) rfl (pv 4)) (pg_name (i := 6) sc_Web_distances.nd rfl (Or.inl rfl)) (pss_one (ps_asg (pv 5) (pg_sub (pv 3) (pv 6) set_list))))
        (pss_cons (ps_aug (i := 5) sc_Web_distances.nd rfl (Or.inl rfl) pe_int ip_add)
        (pss_one (ps_set (i := 4) sc_Web_distances.nd rfl (Or.inr rfl) (pe_lc (own := [("place", 6)]) (g := (gName 6)) (by rfl) sc_Web_distances.nd (k_list (K := K) rfl (pv 2)) (blkOk_by (own := [("place", 6)]) (N := ns_Web_distances) (sc := defScope s_Web_distances) (by decide +kernel)) (fun _ _ _ _ _ => (pg_name (i := 6) sc_Web_distances.nd rfl (Or.inl rfl))) (fun _ _ _ _ _ => pts_one (PW.pt (pw_and (pt_cmpR op_isN (pe_ix (kix (K := K) (r := rIxL) ix_list rfl) (pv 3) (pv 6) (fun _ _ => rfl)) pe_non (nomark _)) (pw_and1 (pt_val (emt c_Web_touches g hr (by decide) pass0 (pv 0) (pa_cons (pv 6) (pa_cons (pv 4) pa_nil)))))))) (fun _ _ _ _ _ => (pv 6))))))))
    (pss_one (ps_ret (pv 3)))))))), ?_⟩
    refine q_asgL (el_nums (ev_var rfl) ha hlen (fun _ => rfl) (fun _ => rfl)) fun c H1 c0 e1 hc => ?_
    refine q_asgL (el_rep (n := m) ev_c (ev_fld (ev_var rfl) (e1 _ _ hp) T.cl T.nM (webF_many m c1 c2)) (by omega)) fun l H2 l0 e2 hl => ?_
    refine q_asgL (el_lst (ea_cons ev_c ea_nil) (by show 1 ≤ 100000; decide)) fun ed H3 d0 e3 hed => ?_
    refine q_asg ev_c fun H4 e4 => ?_
    have e14 := (e2.trans e3).trans e4
    have neq : ed ≠ l := fun z => by rw [z, hl] at d0; cases d0
    refine q_while (fun μ σ' H' => ∃ (s : Nat) (ed : Addr) (o6 : Option V), σ' = [some (.ref p), some (.ref a), some (.ref c), some (.ref l), some (.ref ed), some (.int (s : Int)), o6] ∧ Ex H1 H' ∧ H' l = some (.lst (toldV m ps al s)) ∧ H' ed = some (.lst (vN (edgeAt ps al s))) ∧ ed ≠ l ∧ (∀ j, j < s → edgeAt ps al j ≠ []) ∧ μ = m + 1 - s) (m + 1)
      ⟨0, ed, none, rfl, e14, by rw [told_zero]; exact e4 _ _ (e3 _ _ hl), e4 _ _ hed, neq, fun j h => absurd h (Nat.not_lt_zero _), by omega⟩ ?_
    rintro μ σ' H' ⟨s, ed, o6, rfl, e, hl, hed, nl, ne, rfl⟩
    have hs : s ≤ m := by
      have := steps_le (ps := ps) m0 hal s ne
      omega
    refine ⟨!(vN (edgeAt ps al s)).isEmpty, et_tr (ev_var rfl) (fun H1 e1 => sq_of (e1 _ _ hed)), fun hb H5 e5 => ?_, fun hb H5 e5 => ?_⟩
    · have nemp : edgeAt ps al s ≠ [] := fun z => by rw [z] at hb; cases hb
      refine ⟨fun σ2 H6 => ∃ (ed : Addr) (o6 : Option V), σ2 = [some (.ref p), some (.ref a), some (.ref c), some (.ref l), some (.ref ed), some (.int ((s + 1 : Nat) : Int)), o6] ∧ Ex H1 H6 ∧ H6 l = some (.lst (toldV m ps al (s + 1))) ∧ H6 ed = some (.lst (vN (edgeAt ps al (s + 1)))) ∧ ed ≠ l, fun σ2 H6 h => ⟨m + 1 - (s + 1), by omega, s + 1, ?_⟩, ?_⟩
      · obtain ⟨ed2, o6, h3, h4, h5, h6, h7⟩ := h
        refine ⟨ed2, o6, h3, h4, h5, h6, h7, fun j hj => ?_, rfl⟩
        by_cases q : j = s
        · rw [q]
          exact nemp
        · exact ne j (by omega)
      · -- for place in edge: told[place] = steps
        refine q_forLn (xs := vN (edgeAt ps al s)) (ev_var rfl) (sq_of (e5 _ _ hed)) (fun i σ' H'' => ∃ o6, σ' = [some (.ref p), some (.ref a), some (.ref c), some (.ref l), some (.ref ed), some (.int (s : Int)), o6] ∧ Ex H1 H'' ∧ H'' l = some (.lst (midV m ps al s i)) ∧ H'' ed = some (.lst (vN (edgeAt ps al s)))) (fun H6 e6 => ⟨o6, rfl, (e.trans e5).trans e6, by rw [mid_zero]; exact e6 _ _ (e5 _ _ hl), e6 _ _ (e5 _ _ hed)⟩) (fun i σ' H'' _ h => ?_) (fun i x σ' H'' hxi h => ?_) (fun σ' H'' h => ?_)
        · obtain ⟨o6, _, _, _, h⟩ := h
          exact sq_of h
        · obtain ⟨o6, rfl, e6, hl6, hd6⟩ := h
          obtain ⟨n, rfl, hn⟩ := vN_at hxi
          have hnm : n < m := edge_lt m0 hal (List.mem_of_getElem? hn)
          refine s_setL (xs := midV m ps al s i) hl6 (ev_var rfl) (ev_var rfl) (ev_var rfl) (by rw [mid_len]; exact hnm) fun H7 e7 => ⟨_, rfl, Ex.mut (e6.trans e7) l0, ?_, ?_⟩
          · rw [upd_same, mid_step hn hnm]
          · rw [upd_ne nl]
            exact e7 _ _ hd6
        · obtain ⟨o6, rfl, e6, hl6, hd6⟩ := h
          rw [vN_len, mid_all] at hl6
          refine q_aug (a := (s : Int)) rfl ev_c fun H7 e7 => ?_
          -- edge = [..]
          refine s_asgL (xs := vN (edgeAt ps al (s + 1))) ?_ fun ed2 H8 d2 e8 hed2 => ⟨ed2, o6, ?_, (e6.trans e7).trans e8, e8 _ _ (e7 _ _ hl6), hed2, fun z => by rw [z, e7 _ _ hl6] at d2; cases d2⟩
          · have hc7 := e7 _ _ (e6 _ _ hc)
            have lc := el_lcL (K := K) (σ := [some (V.ref p), some (.ref a), some (.ref c), some (.ref l), some (.ref ed), some (.int ((s : Int) + 1)), o6]) (H := H7) (tl := tVar 2) (j := 6) (vs := [6]) (t := tAnd (tTest (tOp (fun x y H Q => y = .non ∧ Q (.bl (decide (x = .non))) H) (tOp (rIxL K) (tVar 3) (tVar 6)) (tC .non))) (tB (tMt C "_touches" (spTouch K C) E0 (tVar 0) (tCons (tVar 6) (tCons (tVar 4) tNil))))) (te := tVar 6) (fun n => (fun x => (dist ps al (s + 1) x).isNone && (rowOf ps x).any fun y => decide (y ∈ edgeAt ps al s)) (al.getD n 0)) (fun n => V.int ((al.getD n 0 : Nat) : Int)) (ev_var rfl) (sq_of hc7) (by rw [vN_len]; omega) (fun _ => rfl)
              (fun i x H8 e8 hi => by
                obtain ⟨rfl, hil⟩ := getD_nat hi
                have hm : al.getD i 0 < m := by
                  rw [List.getD_eq_getElem?_getD, List.getElem?_eq_getElem hil]
                  exact hal _ (List.getElem_mem hil)
                refine et_and (et_test (ev_is (ev_op (ev_op (ev_var rfl) (ev_var rfl) (rv_ixL (sq_of (e8 _ _ (e7 _ _ hl6))) (atI_nat (told_get hm)))) ev_c (z := .bl (decide (oV (dist ps al (s + 1) (al.getD i 0)) = .non))) (rv_val fun H e Q q => ⟨rfl, q⟩)) (by rw [oV_non]))) (fun _ => et_B (ev_mt (ev_var rfl) ((((e1.trans e6).trans e7).trans e8) _ _ hp) (no_m (by decide +kernel)) (ea_cons (ev_var rfl) (ea_cons (ev_var rfl) ea_nil)) (fun H9 e9 Q q E => ?_)))
                exact ⟨p, ed, m, ps, al.getD i 0, edgeAt ps al s, rfl, hW.ex ((((e1.trans e6).trans e7).trans e8).trans e9), hm, sq_of (e9 _ _ (e8 _ _ (e7 _ _ hd6))), q⟩)
              (fun i x H8 e8 hi _ => by
                obtain ⟨rfl, hil⟩ := getD_nat hi
                exact ev_var rfl)
            rw [vN_len] at lc
            have gf := given_filter al (fun x => (dist ps al (s + 1) x).isNone && (rowOf ps x).any fun y => decide (y ∈ edgeAt ps al s))
            rw [gf] at lc
            exact lc
          · show [_, _, _, _, _, some (V.int ((s : Int) + 1)), _] = _
            rfl
    · have emp : edgeAt ps al s = [] := by
        cases q : edgeAt ps al s with
        | nil => rfl
        | cons x xs =>
          rw [q] at hb
          cases hb
      refine ⟨_, rfl, k l _ (fresh_back e1 l0) ((e1.trans e).trans e5) ?_⟩
      rw [← told_end emp hs]
      exact e5 _ _ hl
theorem c_cut (D : Md K C "cut" "Web.cut" s_Web_cut ["self", "living"]) (T : TxtF K mg C) (c_number_of : Cal P w K mg base CX0 1 "number_of" (spNumber K)) (c_Web_distances : Met P w K mg base CX0 2 C "distances" (spDist K C)) : Met P w K mg base CX0 3 C "cut" (spCut K C) := by
  refine D.met T.cl sc_Web_cut (fun vs H Q E h => ?_) (fun f cdv A outer s H vs Q E g hr h => ?_)
  · obtain ⟨p, a, m, ps, al, rfl, _⟩ := h
    rfl
  · obtain ⟨p, a, m, ps, al, rfl, hW, ha, hlen, hal, k⟩ := h
    have hW' := hW
    obtain ⟨hg, dx, c1, c2, hp, h1, h2⟩ := hW'
    refine ⟨_, (pss_cons (ps_set (i := 2) sc_Web_cut.nd rfl (Or.inr rfl) (emt c_Web_distances g hr (by decide) pass0 (pv 0) (pa_cons (pv 1) pa_nil)))
    (pss_cons (ps_setLc (i := 3) (own := [("place", 4)]) (g := (gName 4)) (tt := tYes) (by rfl) sc_Web_cut.nd rfl rfl (sw_true rfl rfl rfl (by decide +kernel)) (k_list (K := K) rfl (pv 1)) (blkOk_by (own := [("place", 4)]) (N := ns_Web_cut) (sc := defScope s_Web_cut) (by decide +kernel)) (fun _ _ _ _ _ => (pg_name (i := 4) sc_Web_cut.nd rfl (Or.inl rfl))) (fun _ _ _ _ _ => pts_nil) (fun _ _ _ _ _ => (ec c_number_of g hr (by decide) pass0 (by rfl) (pa_cons (pv 4) pa_nil))))
    (pss_one (ps_ret (pe_lc (own := [("place", 4)]) (g := (gName 4)) (by rfl) sc_Web_cut.nd (k_list (K := K) rfl (pv 3)) (blkOk_by (own := [("place", 4)]) (N := ns_Web_cut) (sc := defScope s_Web_cut) (by decide +kernel)) (fun _ _ _ _ _ => (pg_name (i := 4) sc_Web_cut.nd rfl (Or.inl rfl))) (fun _ _ _ _ _ => pts_one (pt_cmpR op_isN (pe_ix (kix (K := K) (r := rIxL) ix_list rfl) (pv 2) (pv 4) (fun _ _ => rfl)) pe_non (nomark _))) (fun _ _ _ _ _ => (pv 4))))))), ?_⟩
    refine q_asgL (el_mt (xs := farV m ps al) (ev_var rfl) hp (no_m (by decide +kernel)) (ea_cons (ev_var rfl) ea_nil) (fun H1 e1 Q q E => ⟨p, a, m, ps, al, rfl, hW.ex e1, ex_l e1 ha, hlen, hal, q⟩)) fun l H1 l0 e1 hl => ?_
    refine q_asgL (el_nums (ev_var rfl) (ex_l e1 ha) hlen (fun _ => rfl) (fun _ => rfl)) fun c H2 c0 e2 hc => ?_
    refine s_retL (xs := vN (cutOf m ps al)) ?_ fun r H3 r0 e3 hr => k r H3 (fresh_back (e1.trans e2) r0) ((e1.trans e2).trans e3) hr
    have lc := el_lcL (K := K) (σ := [some (V.ref p), some (.ref a), some (.ref l), some (.ref c), none]) (H := H2) (tl := tVar 3) (j := 4) (vs := [4]) (t := tTest (tOp (fun x y H Q => y = .non ∧ Q (.bl (decide (x = .non))) H) (tOp (rIxL K) (tVar 2) (tVar 4)) (tC .non))) (te := tVar 4) (fun n => (fun x => (far m ps al x).isNone) (al.getD n 0)) (fun n => V.int ((al.getD n 0 : Nat) : Int)) (ev_var rfl) (sq_of hc) (by rw [vN_len]; omega) (fun _ => rfl)
      (fun i x H8 e8 hi => by
        obtain ⟨rfl, hil⟩ := getD_nat hi
        have hm : al.getD i 0 < m := by
          rw [List.getD_eq_getElem?_getD, List.getElem?_eq_getElem hil]
          exact hal _ (List.getElem_mem hil)
        exact et_test (ev_is (ev_op (ev_op (ev_var rfl) (ev_var rfl) (rv_ixL (sq_of (e8 _ _ (e2 _ _ hl))) (atI_nat (far_get hm)))) ev_c (z := .bl (decide (oV (far m ps al (al.getD i 0)) = .non))) (rv_val fun H e Q q => ⟨rfl, q⟩)) (by rw [oV_non])))
      (fun i x H8 e8 hi _ => by
        obtain ⟨rfl, hil⟩ := getD_nat hi
        exact ev_var rfl)
    rw [vN_len, given_filter al (fun x => (far m ps al x).isNone)] at lc
    exact lc
end
end K15
end
section
set_option Elab.async false
set_option linter.all false
set_option maxRecDepth 100000
set_option maxHeartbeats 4000000
namespace K15
open PySem PySem.Spec PyProof.Rows L2 Lf Wm
open Evl
abbrev s_Web_pairs : Stmt := inClass (topS 14) 2
abbrev ns_Web_pairs : List Str := ["self"]
theorem sc_Web_pairs : FnScope ns_Web_pairs ["self"] (defScope s_Web_pairs) := ⟨rfl, rfl, rfl, by decide +kernel, rfl, by decide +kernel, by decide +kernel⟩
abbrev s_Web_neighbours : Stmt := inClass (topS 14) 3
abbrev ns_Web_neighbours : List Str := ["self", "place"]
theorem sc_Web_neighbours : FnScope ns_Web_neighbours ["self", "place"] (defScope s_Web_neighbours) := ⟨rfl, rfl, rfl, by decide +kernel, rfl, by decide +kernel, by decide +kernel⟩
abbrev s_cut_holds : Stmt := topS 16
abbrev ns_cut_holds : List Str := ["web", "living", "cut", "things", "places", "alive", "around", "thing", "place", "near"]
theorem sc_cut_holds : FnScope ns_cut_holds ["web", "living", "cut"] (defScope s_cut_holds) := ⟨rfl, rfl, rfl, by decide +kernel, rfl, by decide +kernel, by decide +kernel⟩
def spWPairs (K : PySem.W.Frag) (C : Addr) : Sp := fun vs H Q _ => ∃ (p dx a1 a2 : Addr) (m : Nat) (xs : List V), vs = [.ref p] ∧ H p = some (.ins C dx (webF m a1 a2)) ∧ SqL K H a1 xs ∧ RetL xs H Q
def spWNear (K : PySem.W.Frag) (C : Addr) : Sp := fun vs H Q _ => ∃ (p : Addr) (m : Nat) (ps : PS) (i : Nat), vs = [.ref p, .int i] ∧ WebAt K C H p m ps ∧ i < m ∧ RetL (vN (rowOf ps i)) H Q
def spRisesN (K : PySem.W.Frag) : Sp := fun vs H Q _ => ∃ (a : Addr) (cs : List Nat), vs = [.ref a] ∧ SqL K H a (vN cs) ∧ cs.length ≤ 1000 ∧ RetV (.bl (risesN cs)) H Q
def spCutHolds (K : PySem.W.Frag) (C : Addr) : Sp := fun vs H Q _ => ∃ (p a c : Addr) (m : Nat) (ps : PS) (al cs : List Nat), vs = [.ref p, .ref a, .ref c] ∧ WebAt K C H p m ps ∧ SqL K H a (vN al) ∧ SqL K H c (vN cs) ∧ al.length ≤ 30 ∧ cs.length ≤ 30 ∧ (∀ x ∈ al, x < m) ∧ RetV (.bl (cutHolds ps al cs)) H Q
section
variable {P : Program} {w : World} {K : PySem.W.Frag} {mg : Str → Option Value} {base : Heap} {C : Addr}
theorem c_wpairs (D : Md K C "pairs" "Web.pairs" s_Web_pairs ["self"]) (T : TxtF K mg C) : Met P w K mg base CX0 1 C "pairs" (spWPairs K C) := by
  refine D.met T.cl sc_Web_pairs (fun vs H Q E h => ?_) (fun f cdv A outer s H vs Q E g hr h => ?_)
  · obtain ⟨p, dx, a1, a2, m, xs, rfl, _⟩ := h
    rfl
  · obtain ⟨p, dx, a1, a2, m, xs, rfl, hp, hx, k⟩ := h
    refine ⟨_, (pss_one (ps_ret (pe_callTy (k_lst (K := K) rfl) (by rfl) T.n_list (by decide +kernel) (pa_cons (k_fld (K := K) rfl (pv 0) rfl) pa_nil)))), ?_⟩
    exact s_retL (el_listL (ev_fld (ev_var rfl) hp T.cl T.nP (webF_pairs m _ a2)) hx) k
theorem c_neighbours (D : Md K C "neighbours" "Web.neighbours" s_Web_neighbours ["self", "place"]) (T : TxtF K mg C) (c_Web_known : Met P w K mg base CX0 3 C "_known" (spKnown K C)) : Met P w K mg base CX0 4 C "neighbours" (spWNear K C) := by
  refine D.met T.cl sc_Web_neighbours (fun vs H Q E h => ?_) (fun f cdv A outer s H vs Q E g hr h => ?_)
  · obtain ⟨p, m, ps, i, rfl, _⟩ := h
    rfl
  · obtain ⟨p, m, ps, i, rfl, hW, hi, k⟩ := h
    have hW' := hW
    obtain ⟨hg, dx, a1, a2, hp, h1, h2⟩ := hW'
    obtain ⟨a, xs, e, hx, hlen, hrow⟩ := dNs_list h2
    cases e
    obtain ⟨u, hu, hu2⟩ := hrow i _ (nearOf_get hi)
    refine ⟨_, (pss_one (ps_ret (pe_callTy (k_lst (K := K) rfl) (by rfl) T.n_list (by decide +kernel) (pa_cons (pe_ix (kix (K := K) (r := rIxL) ix_list rfl) (k_fld (K := K) rfl (pv 0) rfl) (emt c_Web_known g hr (by decide) pass0 (pv 0) (pa_cons (pv 1) (pa_cons pe_int pa_nil))) (fun _ _ => rfl)) pa_nil)))), ?_⟩
    have kn : SV (spKnown K C) [.ref p, .int i, .int 0] H (.int i) := fun H1 e Q q E => ⟨p, m, ps, i, 0, rfl, hW.ex e, hi, q⟩
    exact s_retL (el_listL (ev_op (ev_fld (ev_var rfl) hp T.cl T.nN (webF_near m a1 _)) (ev_mt (ev_var rfl) hp (no_m (by decide +kernel)) (ea_cons (ev_var rfl) (ea_cons ev_c ea_nil)) kn) (rv_ixL hx (atI_nat hu))) hu2) k
theorem c_risesN (D : Df K mg "rises" s_rises ["things"]) (T : TxtB K mg) : Cal P w K mg base CX0 1 "rises" (spRisesN K) := by
  refine D.cal sc_rises (fun vs H Q E h => ?_) (fun f cdv A outer s H vs Q E g hr h => ?_)
  · obtain ⟨a, cs, rfl, _⟩ := h
    rfl
  · obtain ⟨a, cs, rfl, hx, hlen, k⟩ := h
    refine ⟨_, (pss_one (ps_ret (pe_callB (kcr (K := K) (r := rAll) (cr_all rfl) rfl) (by rfl) T.n_all (by decide +kernel) (pa_cons (pe_lc (own := [("ahead", 1), ("behind", 2)]) (g := (gTup K 2 (gCons (gName 1) (gCons (gName 2) gNil)))) (tt := tYes) (by rfl) sc_rises.nd (k_zip (K := K) rfl (by rfl) T.n_zip (pa_cons (pv 0) (pa_cons (pe_slice (ksl (K := K) (r := rSlL) sl_list rfl) (pv 0) (po_some pe_int) po_none) pa_nil))) (blkOk_by (own := [("ahead", 1), ("behind", 2)]) (N := ns_rises) (sc := defScope s_rises) (by decide +kernel)) (fun _ _ _ _ _ => (k_gtup (K := K) rfl (by rfl) (pgs_cons (pg_name (i := 1) sc_rises.nd rfl (Or.inl rfl)) (pgs_cons (pg_name (i := 2) sc_rises.nd rfl (Or.inl rfl)) pgs_nil)))) (fun _ _ _ _ _ => pts_nil) (fun _ _ _ _ _ => (pe_cmpR op_lt (pv 1) (pv 2) (nomark _)))) pa_nil)))), ?_⟩
    refine s_ret (v := .bl (risesN cs)) (ev_all (bs := (List.range (cs.length - 1)).map fun i => decide (cs.getD i 0 < cs.getD (i + 1) 0)) ?_) (fun H1 e => k H1 e)
    rw [List.map_map]
    refine el_mapZ (a := a) (xs := vN cs) (ys := (vN cs).drop 1) (V.bl ∘ fun i => decide (cs.getD i 0 < cs.getD (i + 1) 0)) (fun H1 e Q q => ?_) hx ?_ (by omega) (fun _ _ => rfl) (fun i x y H1 e h1 h2 => ?_)
    · refine ⟨_, rfl, _, rfl, 1, rfl, a, vN cs, rfl, ex_l e hx, fun p hp => q p _ (Ex.new hp) ?_⟩
      rw [cut1]
      exact sq_of upd_same
    · rw [List.length_drop, vN_len]
      omega
    · obtain ⟨rfl, hi⟩ := getD_nat h1
      rw [List.getElem?_drop, Nat.add_comm 1 i] at h2
      obtain ⟨rfl, hi2⟩ := getD_nat h2
      refine ev_is (ev_op (ev_var rfl) (ev_var rfl) rv_I0) ?_
      show V.bl _ = V.bl (decide (cs.getD i 0 < cs.getD (i + 1) 0))
      congr 1
      rw [decide_eq_decide]
      omega
theorem c_cut_holds (D : Df K mg "cut_holds" s_cut_holds ["web", "living", "cut"]) (T : TxtB K mg) (c_list_of : Cal P w K mg base CX0 1 "list_of" (spList K)) (c_number_of : Cal P w K mg base CX0 1 "number_of" (spNumber K)) (c_rises : Cal P w K mg base CX0 1 "rises" (spRisesN K)) (c_Web_neighbours : Met P w K mg base CX0 4 C "neighbours" (spWNear K C)) :
    Cal P w K mg base CX0 5 "cut_holds" (spCutHolds K C) := by
  refine D.cal sc_cut_holds (fun vs H Q E h => ?_) (fun f cdv A outer s H vs Q E g hr h => ?_)
  · obtain ⟨p, a, c, m, ps, al, cs, rfl, _⟩ := h
    rfl
  · obtain ⟨p, a, c, m, ps, al, cs, rfl, hW, ha, hc, la, lcs, hal, k⟩ := h
    have hW' := hW
    obtain ⟨hg, dx, c1, c2, hp, h1, h2⟩ := hW'
    refine ⟨_, (pss_cons (ps_set (i := 3) sc_cut_holds.nd rfl (Or.inl rfl) (ec c_list_of g hr (by decide) pass0 (by rfl) (pa_cons (pv 2) pa_nil)))
    (pss_cons (ps_if (pt_cmpR op_isN (pv 3) pe_non (nomark _)) (pss_one (ps_ret pe_bl)) pss_nil)
    (pss_cons (ps_set (i := 4) sc_cut_holds.nd rfl (Or.inr rfl) (pe_lc (own := [("thing", 7)]) (g := (gName 7)) (tt := tYes) (by rfl) sc_cut_holds.nd (k_list (K := K) rfl (pv 3)) (blkOk_by (own := [("thing", 7)]) (N := ns_cut_holds) (sc := defScope s_cut_holds) (by decide +kernel)) (fun _ _ _ _ _ => (pg_name (i := 7) sc_cut_holds.nd rfl (Or.inl rfl))) (fun _ _ _ _ _ => pts_nil) (fun _ _ _ _ _ => (ec c_number_of g hr (by decide) pass0 (by rfl) (pa_cons (pv 7) pa_nil)))))
    (pss_cons (ps_set (i := 5) sc_cut_holds.nd rfl (Or.inr rfl) (pe_lc (own := [("thing", 7)]) (g := (gName 7)) (tt := tYes) (by rfl) sc_cut_holds.nd (k_list (K := K) rfl (pv 1)) (blkOk_by (own := [("thing", 7)]) (N := ns_cut_holds) (sc := defScope s_cut_holds) (by decide +kernel)) (fun _ _ _ _ _ => (pg_name (i := 7) sc_cut_holds.nd rfl (Or.inl rfl))) (fun _ _ _ _ _ => pts_nil) (fun _ _ _ _ _ => (ec c_number_of g hr (by decide) pass0 (by rfl) (pa_cons (pv 7) pa_nil)))))
    (pss_cons (ps_if (PW.pt (pw_or (pt_val (pe_callB (kcr (K := K) (r := rAny) (cr_any rfl) rfl) (by rfl) T.n_any (by decide +kernel) (pa_cons (pe_lc (own := [("place", 8)]) (g := (gName 8)) (tt := tYes) (by rfl) sc_cut_holds.nd (k_list (K := K) rfl (pv 4)) (blkOk_by (own := [("place", 8)]) (N := ns_cut_holds) (sc := defScope s_cut_holds) (by decide +kernel)) (fun _ _ _ _ _ => (pg_name (i := 8) sc_cut_holds.nd rfl (Or.inl rfl))) (fun _ _ _ _ _ => pts_nil) (fun _ _ _ _ _ => (pe_or (pe_cmpR op_eq (pv 8) pe_int (nomark _)) (pe_one (pe_cmpR (kop (K := K) (r := fun K => rIn K true) op_notIn_seq rfl) (pv 8) (pv 5) rfl))))) pa_nil))) (pw_or1 (pt_not (pt_val (ec c_rises g hr (by decide) pass0 (by rfl) (pa_cons (pv 4) pa_nil))))))) (pss_one (ps_ret pe_bl)) pss_nil)
    (pss_cons (ps_setLc2 (i := 6) (own := [("place", 8), ("near", 9)]) (vs1 := [9]) (g := (gName 8)) (g1 := (gName 9)) (tt := tYes) (tt1 := tYes) (by rfl) sc_cut_holds.nd rfl rfl (sw_true rfl rfl rfl (by decide +kernel)) (k_list (K := K) rfl (pv 4)) (blkOk_by (own := [("place", 8), ("near", 9)]) (N := ns_cut_holds) (sc := defScope s_cut_holds) (by decide +kernel)) (by decide) (fun _ _ _ _ _ => (pg_name (i := 8) sc_cut_holds.nd rfl (Or.inl rfl))) (fun _ _ _ _ _ => pts_nil) (fun _ _ _ _ _ => (k_list (K := K) rfl (emt c_Web_neighbours g hr (by decide) pass0 (pv 0) (pa_cons (pv 8) pa_nil)))) (fun _ _ _ _ _ => (pg_name (i := 9) sc_cut_holds.nd rfl (Or.inl rfl))) (fun _ _ _ _ _ => pts_nil) (fun _ _ _ _ _ => (pv 9)))
    (pss_one (ps_ret (pe_callB (kcr (K := K) (r := rAll) (cr_all rfl) rfl) (by rfl) T.n_all (by decide +kernel) (pa_cons (pe_lc (own := [("near", 9)]) (g := (gName 9)) (tt := tYes) (by rfl) sc_cut_holds.nd (k_list (K := K) rfl (pv 6)) (blkOk_by (own := [("near", 9)]) (N := ns_cut_holds) (sc := defScope s_cut_holds) (by decide +kernel)) (fun _ _ _ _ _ => (pg_name (i := 9) sc_cut_holds.nd rfl (Or.inl rfl))) (fun _ _ _ _ _ => pts_nil) (fun _ _ _ _ _ => (pe_or (pe_cmpR (kop (K := K) (r := fun K => rIn K false) op_in_seq rfl) (pv 9) (pv 4) rfl) (pe_one (pe_cmpR (kop (K := K) (r := fun K => rIn K true) op_notIn_seq rfl) (pv 9) (pv 5) rfl))))) pa_nil)))))))))), ?_⟩
    -- things = list_of(cut)
    refine q_asgL (el_cl (ea_cons (ev_var rfl) ea_nil) (fun H1 e Q q E => ⟨c, _, rfl, ex_l e hc, q⟩)) fun t H1 _ e1 ht => ?_
    refine q_when (b := false) (et_test (ev_op (ev_var rfl) ev_c (z := .bl false) (rv_val fun H e Q q => ⟨rfl, q⟩))) (fun h => nomatch h) fun _ H2 e2 => ?_
    -- places, alive
    refine q_asgL (el_nums (ev_var rfl) (sq_of (e2 _ _ ht)) (by omega) (fun _ => rfl) (fun _ => rfl)) fun n H3 n0 e3 hn => ?_
    have e13 := (e1.trans e2).trans e3
    refine q_asgL (el_nums (ev_var rfl) (ex_l e13 ha) (by omega) (fun _ => rfl) (fun _ => rfl)) fun v H4 v0 e4 hv => ?_
    have hn4 := e4 _ _ hn
    have e14 := e13.trans e4
    -- if any(..) or not rises(places)
    refine q_when (b := (cs.any fun x => decide (x = 0) || !decide (x ∈ al)) || !risesN cs) (et_or (et_B (ev_is (ev_any (bs := (List.range (vN cs).length).map fun i => decide (cs.getD i 0 = 0) || !decide (cs.getD i 0 ∈ al)) ?_) ?_)) (fun _ => et_not (et_B (ev_cl (ea_cons (ev_var rfl) ea_nil) (fun H5 e5 Q q E => ⟨n, cs, rfl, sq_of (e5 _ _ hn4), by omega, q⟩))))) (fun hb H5 e5 => ?_) fun hb H5 e5 => ?_
    · rw [← bl_map]
      refine el_map _ (ev_var rfl) (sq_of hn4) (by rw [vN_len]; omega) (fun _ => rfl) fun i x H5 e5 hi => ?_
      obtain ⟨rfl, hil⟩ := getD_nat hi
      refine ev_orV (ev_is (ev_op (ev_var rfl) ev_c (rv_eq rfl)) ?_) (fun _ => ev_is (ev_op (ev_var rfl) (ev_var rfl) (rv_niL (sq_of (e5 _ _ hv)) rfl (vN_flat _))) (by rw [inV_nat]))
      congr 1
      rw [decide_eq_decide]
      exact ⟨fun h => by have := V.int.inj h; omega, fun h => by rw [h]; rfl⟩
    · rw [vN_len, List.any_map]
      congr 1
      exact (any_getD fun x => decide (x = 0) || !decide (x ∈ al)).symm
    · refine s_ret ev_c fun H6 e6 => ?_
      have q : cutHolds ps al cs = false := by
        unfold cutHolds
        rw [hb]
        rfl
      rw [q] at k
      exact k _ ((e14.trans e5).trans e6)
    · have e15 := e14.trans e5
      rw [Bool.or_eq_false_iff] at hb
      have hin : ∀ x ∈ cs, x < m := fun x hx => by
        have := List.any_eq_false.mp hb.1 x hx
        refine hal x ?_
        cases q : decide (x ∈ al) with
        | true => exact of_decide_eq_true q
        | false =>
          rw [q] at this
          simp at this
      have few := hg.few
      -- around
      have hrow : ∀ i, (vN (rowOf ps i)).length ≤ 1000 := fun i => by
        rw [vN_len]
        exact Nat.le_trans (List.length_filterMap_le ..) hg.few
      refine q_asgL (xs := flat (fun i => vN (rowOf ps (cs.getD i 0))) (vN cs).length) (el_lc2 (c := 1000) (fun i => vN (rowOf ps (cs.getD i 0))) (ev_var rfl) (sq_of (e5 _ _ hn4)) (fun i => hrow _) (by rw [vN_len]; omega) (fun _ => rfl) (fun _ _ => rfl) (fun i x H6 e6 hi => ?_) (fun i x y H6 e6 hi _ => ev_var rfl)) fun r H6 r0 e6 hr => ?_
      · obtain ⟨rfl, hil⟩ := getD_nat hi
        have hm : cs.getD i 0 < m := by
          rw [List.getD_eq_getElem?_getD, List.getElem?_eq_getElem hil]
          exact hin _ (List.getElem_mem hil)
        exact el_mt (ev_var rfl) ((e15.trans e6) _ _ hp) (no_m (by decide +kernel)) (ea_cons (ev_var rfl) ea_nil) (fun H7 e7 Q q E => ⟨p, m, ps, _, rfl, hW.ex ((e15.trans e6).trans e7), hm, q⟩)
      · have ef : flat (fun i => vN (rowOf ps (cs.getD i 0))) (vN cs).length = vN (cs.flatMap (rowOf ps)) := by
          rw [vN_len]
          exact flat_rows ps cs
        rw [ef] at hr
        have hfl : (cs.flatMap (rowOf ps)).length ≤ 40000 := by
          have := flat_le (fun i => vN (rowOf ps (cs.getD i 0))) (fun i => hrow _) (vN cs).length
          rw [ef, vN_len, vN_len] at this
          omega
        have e16 := e15.trans e6
        refine s_ret (v := .bl (cutHolds ps al cs)) (ev_is (ev_all (bs := (List.range (vN (cs.flatMap (rowOf ps))).length).map fun i => decide ((cs.flatMap (rowOf ps)).getD i 0 ∈ cs) || !decide ((cs.flatMap (rowOf ps)).getD i 0 ∈ al)) ?_) ?_) fun H7 e7 => k _ (e16.trans e7)
        · rw [← bl_map]
          refine el_map _ (ev_var rfl) (sq_of hr) (by rw [vN_len]; omega) (fun _ => rfl) fun i x H7 e7 hi => ?_
          obtain ⟨rfl, hil⟩ := getD_nat hi
          exact ev_orV (ev_is (ev_op (ev_var rfl) (ev_var rfl) (rv_isL (sq_of (e7 _ _ (e6 _ _ (e5 _ _ hn4)))) rfl (vN_flat _))) (by rw [inV_nat])) (fun _ => ev_is (ev_op (ev_var rfl) (ev_var rfl) (rv_niL (sq_of (e7 _ _ (e6 _ _ (e5 _ _ hv)))) rfl (vN_flat _))) (by rw [inV_nat]))
        · unfold cutHolds
          rw [hb.1, hb.2, vN_len, List.all_map]
          simp only [Bool.or_false, Bool.not_false, Bool.true_and]
          congr 1
          exact (all_getD fun n => decide (n ∈ cs) || !decide (n ∈ al)).symm
end
end K15
end
section
set_option Elab.async false
set_option linter.all false
set_option maxRecDepth 100000
set_option maxHeartbeats 4000000
namespace K15
open PySem PySem.Spec PyProof.Rows L2 Lf Wm
open Evl
abbrev s_alike : Stmt := topS 23
abbrev ns_alike : List Str := ["_law_found", "_law_due"]
theorem sc_alike : FnScope ns_alike ["_law_found", "_law_due"] (defScope s_alike) := ⟨rfl, rfl, rfl, by decide +kernel, rfl, by decide +kernel, by decide +kernel⟩
abbrev s_living : Stmt := topS 27
abbrev ns_living : List Str := ["_law_bag_here", "_law_many", "_law_way", "_law_place"]
theorem sc_living : FnScope ns_living ["_law_bag_here", "_law_many"] (defScope s_living) := ⟨rfl, rfl, rfl, by decide +kernel, rfl, by decide +kernel, by decide +kernel⟩
structure TxtS (K : PySem.W.Frag) (mg : Str → Option Value) : Prop where
  n_repr : mg "repr" = none
def spLiving : Sp := fun vs H Q _ => ∃ (b : Addr × Addr) (m : Nat), vs = [.ref b.1, .int m] ∧ Bag H b ∧ 2 ≤ m ∧ m ≤ 10 ∧ ∀ (l : Addr) (al : List Nat) (H' : Hp), Step b H H' → H l = none → H' l = some (.lst (vN (0 :: al))) → (0 :: al).Pairwise (· < ·) → (∀ x ∈ 0 :: al, x < m) → al.length ≤ 20 → Q (.ref l) H'
section
variable {P : Program} {w : World} {K : PySem.W.Frag} {mg : Str → Option Value} {base : Heap} {C : Addr}
theorem c_alike (D : Df K mg "_law_alike" s_alike ["_law_found", "_law_due"]) (T : TxtS K mg) : Cal P w K mg base CX0 1 "_law_alike" (spAlike K) := by
  refine D.cal sc_alike (fun vs H Q E h => ?_) (fun f cdv A outer s H vs Q E g hr h => ?_)
  · obtain ⟨u, v, d, rfl, _⟩ := h
    rfl
  · obtain ⟨u, v, d, rfl, hu, hv, r, k⟩ := h
    refine ⟨_, (pss_one (ps_ret (pe_and (pe_cmpR (kop (K := K) (r := rEqD) (op_eqD hr.units) rfl) (pv 0) (pv 1) (nomark _)) (pe_one (pe_cmpR op_eq (pe_callB (kcr (K := K) (r := rRepr) (cr_repr g hr.units) rfl) (by rfl) T.n_repr (by decide +kernel) (pa_cons (pv 0) pa_nil)) (pe_callB (kcr (K := K) (r := rRepr) (cr_repr g hr.units) rfl) (by rfl) T.n_repr (by decide +kernel) (pa_cons (pv 1) pa_nil)) (nomark _)))))), ?_⟩
    exact s_ret (v := .bl (true && true)) (ev_andV (ev_op (ev_var rfl) (ev_var rfl) (rv_eqD hu hv r (by decide))) fun _ => ev_is (ev_op (ev_repr (ev_var rfl) hu r) (ev_repr (ev_var rfl) hv r) (rv_eq rfl)) (by rw [decide_eq_true rfl])) k
theorem c_living (D : Df K mg "_law_living" s_living ["_law_bag_here", "_law_many"]) (T : TxtB K mg) (c_take : Cal P w K mg base CX0 1 "_law_take" spTake) : Cal P w K mg base CX0 2 "_law_living" spLiving := by
  refine D.cal sc_living (fun vs H Q E h => ?_) (fun f cdv A outer s H vs Q E g hr h => ?_)
  · obtain ⟨b, m, rfl, _⟩ := h
    rfl
  · obtain ⟨b, m, rfl, hb, m2, m10, k⟩ := h
    refine ⟨_, (pss_cons (ps_set (i := 2) sc_living.nd rfl (Or.inr rfl) (ec c_take g hr (by decide) pass0 (by rfl) (pa_cons (pv 0) (pa_cons pe_int pa_nil))))
    (pss_one (ps_ret (pe_op op_cat (pe_lst (pa_cons pe_int pa_nil)) (pe_lc (own := [("_law_place", 3)]) (g := (gName 3)) (by rfl) sc_living.nd (pi_range2 (by rfl) T.n_range (pa_cons pe_int (pa_cons (pv 1) pa_nil))) (blkOk_by (own := [("_law_place", 3)]) (N := ns_living) (sc := defScope s_living) (by decide +kernel)) (fun _ _ _ _ _ => (pg_name (i := 3) sc_living.nd rfl (Or.inl rfl))) (fun _ _ _ _ _ => pts_one (PW.pt (pw_or (pt_cmpR op_eq (pv 2) pe_int (nomark _)) (pw_or1 (pt_cmpR op_gt (ec c_take g hr (by decide) pass0 (by rfl) (pa_cons (pv 0) (pa_cons pe_int pa_nil))) pe_int (nomark _)))))) (fun _ _ _ _ _ => (pv 3))))))), ?_⟩
    -- way
    refine ⟨_, rfl, b, 3, rfl, hb, ⟨by decide, by decide⟩, fun way H1 w0 w1 b1 d1 => ?_⟩
    have s1 : Step b H H1 := .draw b1 d1
    -- [0] + [..]
    refine ⟨by show 1 ≤ sizeLine; decide, fun p hp => ?_⟩
    have s2 : Step b H (upd H1 p (.lst [.int 0])) := s1.trans (.pure b1 (Ex.new hp))
    have hp2 : (upd H1 p (.lst [.int 0])) p = some (.lst [.int 0]) := upd_same
    have nbp : p ≠ b.1 := b1.ne hp
    generalize upd H1 p (.lst [.int 0]) = H2 at *
    refine ⟨_, rfl, 1, (m : Int), rfl, ⟨by decide, by decide, by omega, by omega⟩, fun N hN => lc_range (lo := 1) (n := ((m : Int) - 1).toNat) (fun i H' => Step b H2 H' ∧ ∃ al, H' N = some (.lst (vN al)) ∧ (0 :: al).Pairwise (· < ·) ∧ (∀ x ∈ al, x < 1 + i) ∧ al.length ≤ i) ⟨.pure s2.1 (Ex.new hN), [], upd_same, List.pairwise_singleton .., (fun x h => nomatch h), Nat.le_refl _⟩ ?_ ?_⟩
    · rintro i H' hi ⟨s3, al, hal, pw, lt, len⟩
      have nbN : N ≠ b.1 := s2.1.ne hN
      refine ⟨rfl, (tany_or (tany_ev s3.1 (et_test (ev_op (ev_var rfl) ev_c (rv_eq rfl)))) fun H4 s4 => tany_gt (i := 0) s4.1 rfl ⟨by decide, by decide⟩) _ fun c H4 s4 => ?_⟩
      have h4 := s4.at nbN hal
      cases c with
      | false => exact ⟨s3.trans s4, al, h4, pw, fun x hx => by have := lt x hx; omega, by omega⟩
      | true =>
        refine ⟨_, rfl, _, h4, sz_lt (by rw [vN_len]; omega), (s3.trans s4).put s2.1 hN, al ++ [1 + i], ?_, ?_, ?_, ?_⟩
        · rw [upd_same]
          unfold vN
          rw [List.map_append]
          congr 3
        · rw [← List.cons_append, List.pairwise_append]
          refine ⟨pw, List.pairwise_singleton .., fun x hx y hy => ?_⟩
          rw [List.mem_singleton.mp hy]
          rcases List.mem_cons.mp hx with rfl | hx
          · omega
          · exact lt x hx
        · intro x hx
          rcases List.mem_append.mp hx with h | h
          · have := lt x h
            omega
          · rw [List.mem_singleton.mp h]
            omega
        · rw [List.length_append, List.length_singleton]
          omega
    · rintro H' ⟨s3, al, hal, pw, lt, len⟩
      have hpp := s3.at nbp hp2
      have big : 1000 ≤ sizeLine := by decide
      refine ⟨p, N, [.int 0], vN al, rfl, rfl, hpp, hal, (by rw [vN_len, List.length_singleton]; omega), fun l hl => ?_⟩
      have s4 : Step b H (upd H' l (.lst ([.int 0] ++ vN al))) := (s2.trans s3).trans (.pure s3.1 (Ex.new hl))
      refine k l al _ s4 ((s2.trans s3).free hl) upd_same pw (fun x hx => ?_) (by omega)
      rcases List.mem_cons.mp hx with rfl | hx
      · omega
      · have := lt x hx
        omega
end
end K15
end
section
set_option Elab.async false
set_option linter.all false
set_option maxRecDepth 100000
set_option maxHeartbeats 4000000
namespace K15
open PySem PySem.Spec PyProof.Rows L2 Lf Wm
open Evl
abbrev s_fair : Stmt := topS 28
abbrev ns_fair : List Str := ["_law_near_here", "_law_living_here", "_law_far", "_law_place", "_law_steps", "_law_due", "_law_one"]
theorem sc_fair : FnScope ns_fair ["_law_near_here", "_law_living_here", "_law_far"] (defScope s_fair) := ⟨rfl, rfl, rfl, by decide +kernel, rfl, by decide +kernel, by decide +kernel⟩
abbrev s_reached : Stmt := topS 29
abbrev ns_reached : List Str := ["_law_near_here", "_law_living_here", "_law_reached_here", "_law_turn", "_law_one", "_law_two"]
theorem sc_reached : FnScope ns_reached ["_law_near_here", "_law_living_here"] (defScope s_reached) := ⟨rfl, rfl, rfl, by decide +kernel, rfl, by decide +kernel, by decide +kernel⟩
abbrev s_closed : Stmt := topS 31
abbrev ns_closed : List Str := ["_law_near_here", "_law_living_here", "_law_first", "_law_some", "_law_turn", "_law_one", "_law_two"]
theorem sc_closed : FnScope ns_closed ["_law_near_here", "_law_living_here", "_law_first"] (defScope s_closed) := ⟨rfl, rfl, rfl, by decide +kernel, rfl, by decide +kernel, by decide +kernel⟩
structure TxtT (K : PySem.W.Frag) (mg : Str → Option Value) : Prop where
  n_len : mg "len" = none
  n_range : mg "range" = none
  n_min : mg "min" = none
/-- a web's near, living ones, the root among them -/
structure Liv (K : PySem.W.Frag) (H : Hp) (v : V) (a : Addr) (m : Nat) (ps : PS) (al : List Nat) : Prop where
  near : Dp K H v (dNs (nearOf m ps))
  good : Good m ps
  liv : SqL K H a (vN al)
  few : al.length ≤ 30
  lt : ∀ x ∈ al, x < m
  root : 0 ∈ al
  pw : al.Pairwise (· < ·)
theorem Liv.ex {K : PySem.W.Frag} {H H' : Hp} {v : V} {a : Addr} {m : Nat} {ps : PS} {al : List Nat} (h : Liv K H v a m ps al) (e : Ex H H') : Liv K H' v a m ps al := ⟨dp_ex e _ _ h.near, h.good, ex_l e h.liv, h.few, h.lt, h.root, h.pw⟩
def spFair (K : PySem.W.Frag) : Sp := fun vs H Q _ => ∃ (v : V) (a f : Addr) (m : Nat) (ps : PS) (al : List Nat), vs = [v, .ref a, .ref f] ∧ Liv K H v a m ps al ∧ SqL K H f (farV m ps al) ∧ RetV (.bl true) H Q
def spReached (K : PySem.W.Frag) : Sp := fun vs H Q _ => ∃ (v : V) (a : Addr) (m : Nat) (ps : PS) (al : List Nat), vs = [v, .ref a] ∧ Liv K H v a m ps al ∧ RetL (vN (reached m ps al)) H Q
def spClosed (K : PySem.W.Frag) : Sp := fun vs H Q _ => ∃ (v : V) (a : Addr) (m : Nat) (ps : PS) (al : List Nat) (x : Nat), vs = [v, .ref a, .int x] ∧ Liv K H v a m ps al ∧ x ∈ al ∧ RetL (vN (spreads ps al [x] m)) H Q
theorem near_at {K : PySem.W.Frag} {H : Hp} {v : V} {m : Nat} {ps : PS} (h : Dp K H v (dNs (nearOf m ps))) : ∃ n rows, v = .ref n ∧ SqL K H n rows ∧ rows.length = m ∧ ∀ i, i < m → ∃ u, rows[i]? = some (.ref u) ∧ SqL K H u (vN (rowOf ps i)) := by
  obtain ⟨n, rows, e, h1, h2, h3⟩ := dNs_list h
  refine ⟨n, rows, e, h1, ?_, fun i hi => h3 i _ (nearOf_get hi)⟩
  rw [h2]
  unfold nearOf
  rw [List.length_map, List.length_range]
section
variable {P : Program} {w : World} {K : PySem.W.Frag} {mg : Str → Option Value} {base : Heap} {C : Addr}
theorem el_spread {σ : L2.St} {H : Hp} {v : V} {a sl : Addr} {m : Nat} {ps : PS} {al s : List Nat} {ia i0 is j j2 : Nat} (L : Liv K H v a m ps al) (hs : SqL K H sl (vN s)) (h1 : σ[ia]? = some (some (.ref a)))
    (h2 : ∀ x, ((wipe σ [j]).set j (some x))[i0]? = some (some v)) (h3 : ∀ x, ((wipe σ [j]).set j (some x))[is]? = some (some (.ref sl))) (h4 : ∀ x, ((wipe σ [j]).set j (some x))[j]? = some (some x))
    (h5 : ∀ x y, ((wipe ((wipe σ [j]).set j (some x)) [j2]).set j2 (some y))[is]? = some (some (.ref sl))) (h6 : ∀ x y, ((wipe ((wipe σ [j]).set j (some x)) [j2]).set j2 (some y))[j2]? = some (some y))
    (hw : ∀ x, wipe ((wipe σ [j]).set j (some x)) [j] = wipe σ [j]) (hw2 : ∀ x y, wipe ((wipe ((wipe σ [j]).set j (some x)) [j2]).set j2 (some y)) [j2] = wipe ((wipe σ [j]).set j (some x)) [j2]) :
    EvL (tLc (iList K (tVar ia)) (gName j) (tOr (tTest (tOp (rIn K false) (tVar j) (tVar is))) (tTest (tOp (rNeD K) (tLc (iList K (tOp (rIxL K) (tVar i0) (tVar j))) (gName j2) (tTest (tOp (rIn K false) (tVar j2) (tVar is))) (tVar j2) [j2]) (tLst tNil)))) (tVar j) [j]) σ H (vN (spread ps al s)) := by
  have few := L.few
  have hrow : ∀ i, (rowOf ps i).length ≤ 1000 := fun i => Nat.le_trans (List.length_filterMap_le ..) L.good.few
  have lc := el_lcL (K := K) (σ := σ) (H := H) (tl := tVar ia) (j := j) (vs := [j]) (t := tOr (tTest (tOp (rIn K false) (tVar j) (tVar is))) (tTest (tOp (rNeD K) (tLc (iList K (tOp (rIxL K) (tVar i0) (tVar j))) (gName j2) (tTest (tOp (rIn K false) (tVar j2) (tVar is))) (tVar j2) [j2]) (tLst tNil)))) (te := tVar j) (fun n => (fun p => decide (p ∈ s) || (rowOf ps p).any fun q => decide (q ∈ s)) (al.getD n 0)) (fun n => V.int ((al.getD n 0 : Nat) : Int)) (ev_var h1) L.liv (by rw [vN_len]; omega) hw
    (fun i x H1 e1 hi => by
      obtain ⟨rfl, hil⟩ := getD_nat hi
      have hm : al.getD i 0 < m := by
        rw [List.getD_eq_getElem?_getD, List.getElem?_eq_getElem hil]
        exact L.lt _ (List.getElem_mem hil)
      obtain ⟨n, rows, rfl, g1, _, g3⟩ := near_at (L.ex e1).near
      obtain ⟨u, g4, g5⟩ := g3 _ hm
      refine et_or (et_test (ev_is (ev_op (ev_var (h4 _)) (ev_var (h3 _)) (rv_isL (ex_l e1 hs) rfl (vN_flat _))) (by rw [inV_nat]))) (fun _ => et_test (ev_is (ev_neLL (K := K) (xs := vN ((rowOf ps (al.getD i 0)).filter fun q => decide (q ∈ s))) (ys := []) (d := dN ((rowOf ps (al.getD i 0)).filter fun q => decide (q ∈ s))) (e := .list []) ?_ (el_lst ea_nil (Nat.zero_le _)) (fun p H3 _ hp => .lst (sq_of hp) (vN_dps _)) (fun p H3 _ hp => .lst (sq_of hp) .nil) ((sh_dN _).shaped (by decide)) rfl) (by rw [ne_nil, filter_any])))
      have lc2 := el_lcL (K := K) (σ := (wipe σ [j]).set j (some (V.int ((al.getD i 0 : Nat) : Int)))) (H := H1) (tl := tOp (rIxL K) (tVar i0) (tVar j)) (j := j2) (vs := [j2]) (t := tTest (tOp (rIn K false) (tVar j2) (tVar is))) (te := tVar j2) (fun n => (fun q => decide (q ∈ s)) ((rowOf ps (al.getD i 0)).getD n 0)) (fun n => V.int (((rowOf ps (al.getD i 0)).getD n 0 : Nat) : Int)) (ev_op (ev_var (h2 _)) (ev_var (h4 _)) (rv_ixL g1 (atI_nat g4))) g5 (by rw [vN_len]; have := hrow (al.getD i 0); omega) (hw2 _)
        (fun k y H2 e2 hk => by
          obtain ⟨rfl, _⟩ := getD_nat hk
          exact et_test (ev_is (ev_op (ev_var (h6 _ _)) (ev_var (h5 _ _)) (rv_isL (ex_l (e1.trans e2) hs) rfl (vN_flat _))) (by rw [inV_nat])))
        (fun k y H2 e2 hk _ => by
          obtain ⟨rfl, _⟩ := getD_nat hk
          exact ev_var (h6 _ _))
      rw [vN_len, given_filter (rowOf ps (al.getD i 0)) (fun q => decide (q ∈ s))] at lc2
      exact lc2)
    (fun i x H1 e1 hi _ => by
      obtain ⟨rfl, _⟩ := getD_nat hi
      exact ev_var (h4 _))
  rw [vN_len, given_filter al (fun p => decide (p ∈ s) || (rowOf ps p).any fun q => decide (q ∈ s))] at lc
  exact lc
theorem c_reached (D : Df K mg "_law_reached" s_reached ["_law_near_here", "_law_living_here"]) (T : TxtT K mg) : Cal P w K mg base CX0 1 "_law_reached" (spReached K) := by
  refine D.cal sc_reached (fun vs H Q E h => ?_) (fun f cdv A outer s H vs Q E g hr h => ?_)
  · obtain ⟨v, a, m, ps, al, rfl, _⟩ := h
    rfl
  · obtain ⟨v, a, m, ps, al, rfl, L, k⟩ := h
    have m10 := L.good.m10
    have m2 := L.good.m2
    obtain ⟨n, rows, rfl, g1, g2, _⟩ := near_at L.near
    refine ⟨_, (pss_cons (ps_set (i := 2) sc_reached.nd rfl (Or.inr rfl) (pe_lst (pa_cons pe_int pa_nil)))
    (pss_cons (ps_for PassesOwn.never rfl (pi_range1 (by rfl) T.n_range (pa_cons (pe_callB (k_len (K := K) rfl) (by rfl) T.n_len PySem.boot_len (pa_cons (pv 0) pa_nil)) pa_nil)) (pg_name (i := 3) sc_reached.nd rfl (Or.inl rfl)) (pss_one (ps_set (i := 2) sc_reached.nd rfl (Or.inr rfl) (pe_lc (own := [("_law_one", 4)]) (g := (gName 4)) (by rfl) sc_reached.nd (k_list (K := K) rfl (pv 1)) (blkOk_by (own := [("_law_one", 4)]) (N := ns_reached) (sc := defScope s_reached) (by decide +kernel)) (fun _ _ _ _ _ => (pg_name (i := 4) sc_reached.nd rfl (Or.inl rfl))) (fun _ _ _ _ _ => pts_one (PW.pt (pw_or (pt_cmpR (kop (K := K) (r := fun K => rIn K false) op_in_seq rfl) (pv 4) (pv 2) rfl) (pw_or1 (pt_cmpR (kop (K := K) (r := rNeD) (op_neD hr.units) rfl) (pe_lc (own := [("_law_two", 5)]) (g := (gName 5)) (by rfl) sc_reached.nd (k_list (K := K) rfl (pe_ix (kix (K := K) (r := rIxL) ix_list rfl) (pv 0) (pv 4) (fun _ _ => rfl))) (blkOk_by (own := [("_law_two", 5)]) (N := ns_reached) (by rfl)) (fun _ _ _ _ _ => (pg_name (i := 5) sc_reached.nd rfl (Or.inl rfl))) (fun _ _ _ _ _ => pts_one (pt_cmpR (kop (K := K) (r := fun K => rIn K false) op_in_seq rfl) (pv 5) (pv 2) rfl)) (fun _ _ _ _ _ => (pv 5))) (pe_lst pa_nil) (nomark _)))))) (fun _ _ _ _ _ => (pv 4))))))
    (pss_one (ps_ret (pv 2))))), ?_⟩
    refine q_asgL (el_lst (ea_cons ev_c ea_nil) (by show 1 ≤ 100000; decide)) fun l H1 l0 e1 hl => ?_
    refine q_forR1 (n := (m : Int)) (ea_cons (ev_is (ev_lenL (ev_var rfl) (ex_l e1 g1)) (by rw [g2])) ea_nil) ⟨by omega, by omega⟩ (fun i σ' H' => ∃ l o3, σ' = [some (.ref n), some (.ref a), some (.ref l), o3, none, none] ∧ Ex H H' ∧ H l = none ∧ H' l = some (.lst (vN (spreads ps al [0] i)))) (fun H2 e2 => ⟨l, none, rfl, e1.trans e2, l0, e2 _ _ hl⟩) ?_ ?_
    · rintro i σ' H' hi ⟨l, o3, rfl, e, l0, hl⟩
      exact s_asgL (el_spread (L.ex e) (sq_of hl) rfl (fun _ => rfl) (fun _ => rfl) (fun _ => rfl) (fun _ _ => rfl) (fun _ _ => rfl) (fun _ => rfl) (fun _ _ => rfl)) fun l2 H3 l20 e3 hl2 => ⟨l2, _, rfl, e.trans e3, fresh_back e l20, hl2⟩
    · rintro σ' H' ⟨l, o3, rfl, e, l0, hl⟩
      rw [Int.toNat_natCast, reach_all (by omega) L.lt L.root] at hl
      exact s_ret (ev_var rfl) fun H3 e3 => k l H3 l0 (e.trans e3) (e3 _ _ hl)
theorem c_closed (D : Df K mg "_law_closed" s_closed ["_law_near_here", "_law_living_here", "_law_first"]) (T : TxtT K mg) : Cal P w K mg base CX0 1 "_law_closed" (spClosed K) := by
  refine D.cal sc_closed (fun vs H Q E h => ?_) (fun f cdv A outer s H vs Q E g hr h => ?_)
  · obtain ⟨v, a, m, ps, al, x, rfl, _⟩ := h
    rfl
  · obtain ⟨v, a, m, ps, al, x, rfl, L, hx, k⟩ := h
    have m10 := L.good.m10
    have m2 := L.good.m2
    obtain ⟨n, rows, rfl, g1, g2, _⟩ := near_at L.near
    refine ⟨_, (pss_cons (ps_set (i := 3) sc_closed.nd rfl (Or.inr rfl) (pe_lst (pa_cons (pv 2) pa_nil)))
    (pss_cons (ps_for PassesOwn.never rfl (pi_range1 (by rfl) T.n_range (pa_cons (pe_callB (k_len (K := K) rfl) (by rfl) T.n_len PySem.boot_len (pa_cons (pv 0) pa_nil)) pa_nil)) (pg_name (i := 4) sc_closed.nd rfl (Or.inl rfl)) (pss_one (ps_set (i := 3) sc_closed.nd rfl (Or.inr rfl) (pe_lc (own := [("_law_one", 5)]) (g := (gName 5)) (by rfl) sc_closed.nd (k_list (K := K) rfl (pv 1)) (blkOk_by (own := [("_law_one", 5)]) (N := ns_closed) (sc := defScope s_closed) (by decide +kernel)) (fun _ _ _ _ _ => (pg_name (i := 5) sc_closed.nd rfl (Or.inl rfl))) (fun _ _ _ _ _ => pts_one (PW.pt (pw_or (pt_cmpR (kop (K := K) (r := fun K => rIn K false) op_in_seq rfl) (pv 5) (pv 3) rfl) (pw_or1 (pt_cmpR (kop (K := K) (r := rNeD) (op_neD hr.units) rfl) (pe_lc (own := [("_law_two", 6)]) (g := (gName 6)) (by rfl) sc_closed.nd (k_list (K := K) rfl (pe_ix (kix (K := K) (r := rIxL) ix_list rfl) (pv 0) (pv 5) (fun _ _ => rfl))) (blkOk_by (own := [("_law_two", 6)]) (N := ns_closed) (by rfl)) (fun _ _ _ _ _ => (pg_name (i := 6) sc_closed.nd rfl (Or.inl rfl))) (fun _ _ _ _ _ => pts_one (pt_cmpR (kop (K := K) (r := fun K => rIn K false) op_in_seq rfl) (pv 6) (pv 3) rfl)) (fun _ _ _ _ _ => (pv 6))) (pe_lst pa_nil) (nomark _)))))) (fun _ _ _ _ _ => (pv 5))))))
    (pss_one (ps_ret (pv 3))))), ?_⟩
    refine q_asgL (el_lst (ea_cons (ev_var rfl) ea_nil) (by show 1 ≤ 100000; decide)) fun l H1 l0 e1 hl => ?_
    refine q_forR1 (n := (m : Int)) (ea_cons (ev_is (ev_lenL (ev_var rfl) (ex_l e1 g1)) (by rw [g2])) ea_nil) ⟨by omega, by omega⟩ (fun i σ' H' => ∃ l o4, σ' = [some (.ref n), some (.ref a), some (.int (x : Int)), some (.ref l), o4, none, none] ∧ Ex H H' ∧ H l = none ∧ H' l = some (.lst (vN (spreads ps al [x] i)))) (fun H2 e2 => ⟨l, none, rfl, e1.trans e2, l0, e2 _ _ hl⟩) ?_ ?_
    · rintro i σ' H' hi ⟨l, o4, rfl, e, l0, hl⟩
      exact s_asgL (el_spread (L.ex e) (sq_of hl) rfl (fun _ => rfl) (fun _ => rfl) (fun _ => rfl) (fun _ _ => rfl) (fun _ _ => rfl) (fun _ => rfl) (fun _ _ => rfl)) fun l2 H3 l20 e3 hl2 => ⟨l2, _, rfl, e.trans e3, fresh_back e l20, hl2⟩
    · rintro σ' H' ⟨l, o4, rfl, e, l0, hl⟩
      rw [Int.toNat_natCast] at hl
      exact s_ret (ev_var rfl) fun H3 e3 => k l H3 l0 (e.trans e3) (e3 _ _ hl)
theorem c_fair (D : Df K mg "_law_fair" s_fair ["_law_near_here", "_law_living_here", "_law_far"]) (T : TxtT K mg) (c_alike : Cal P w K mg base CX0 1 "_law_alike" (spAlike K)) : Cal P w K mg base CX0 2 "_law_fair" (spFair K) := by
  refine D.cal sc_fair (fun vs H Q E h => ?_) (fun f cdv A outer s H vs Q E g hr h => ?_)
  · obtain ⟨v, a, f, m, ps, al, rfl, _⟩ := h
    rfl
  · obtain ⟨v, a, f, m, ps, al, rfl, L, hf, k⟩ := h
    have m10 := L.good.m10
    have m2 := L.good.m2
    have m0 : 0 < m := by omega
    have few := L.few
    obtain ⟨n, rows, rfl, g1, g2, g3⟩ := near_at L.near
    refine ⟨_, (pss_cons (ps_for PassesOwn.never rfl (pi_range1 (by rfl) T.n_range (pa_cons (pe_callB (k_len (K := K) rfl) (by rfl) T.n_len PySem.boot_len (pa_cons (pv 0) pa_nil)) pa_nil)) (pg_name (i := 3) sc_fair.nd rfl (Or.inl rfl)) (pss_cons (ps_setLc (i := 4) (own := [("_law_one", 6)]) (g := (gName 6)) (by rfl) sc_fair.nd rfl rfl (sw_true rfl rfl rfl (by decide +kernel)) (k_list (K := K) rfl (pe_ix (kix (K := K) (r := rIxL) ix_list rfl) (pv 0) (pv 3) (fun _ _ => rfl))) (blkOk_by (own := [("_law_one", 6)]) (N := ns_fair) (sc := defScope s_fair) (by decide +kernel)) (fun _ _ _ _ _ => (pg_name (i := 6) sc_fair.nd rfl (Or.inl rfl))) (fun _ _ _ _ _ => pts_one (PW.pt (pw_and (pt_cmpR (kop (K := K) (r := fun K => rIn K false) op_in_seq rfl) (pv 6) (pv 1) rfl) (pw_and1 (pt_cmpR op_notN (pe_ix (kix (K := K) (r := rIxL) ix_list rfl) (pv 2) (pv 6) (fun _ _ => rfl)) pe_non (nomark _)))))) (fun _ _ _ _ _ => (pe_ix (kix (K := K) (r := rIxL) ix_list rfl) (pv 2) (pv 6) (fun _ _ => rfl))))
        (pss_cons (ps_set (i := 5) sc_fair.nd rfl (Or.inl rfl) pe_non)
        (pss_cons (ps_if (PW.pt (pw_and (pt_cmpR (kop (K := K) (r := fun K => rIn K false) op_in_seq rfl) (pv 3) (pv 1) rfl) (pw_and1 (pt_cmpR (kop (K := K) (r := rNeD) (op_neD hr.units) rfl) (pv 4) (pe_lst pa_nil) (nomark _))))) (pss_one (ps_set (i := 5) sc_fair.nd rfl (Or.inl rfl) (pe_op op_add pe_int (pe_callB (kcr (K := K) (r := rMin) (cr_min rfl) rfl) (by rfl) T.n_min (by decide +kernel) (pa_cons (pv 4) pa_nil))))) pss_nil)
        (pss_cons (ps_if (pt_cmpR op_eq (pv 3) pe_int (nomark _)) (pss_one (ps_set (i := 5) sc_fair.nd rfl (Or.inl rfl) pe_int)) pss_nil)
        (pss_one (ps_if (pt_not (pt_val (ec c_alike g hr (by decide) pass0 (by rfl) (pa_cons (pe_ix (kix (K := K) (r := rIxL) ix_list rfl) (pv 2) (pv 3) (fun _ _ => rfl)) (pa_cons (pv 5) pa_nil))))) (pss_one (ps_ret pe_bl)) pss_nil)))))))
    (pss_one (ps_ret pe_bl))), ?_⟩
    refine q_forR1 (n := (m : Int)) (ea_cons (ev_is (ev_lenL (ev_var rfl) g1) (by rw [g2])) ea_nil) ⟨by omega, by omega⟩ (fun i σ' H' => ∃ o3 o4 o5, σ' = [some (.ref n), some (.ref a), some (.ref f), o3, o4, o5, none] ∧ Ex H H') (fun H2 e2 => ⟨none, none, none, rfl, e2⟩) ?_ ?_
    · rintro i σ' H' hi ⟨o3, o4, o5, rfl, e⟩
      have him : i < m := by omega
      obtain ⟨u, hu, hu2⟩ := g3 i him
      have hrow : (rowOf ps i).length ≤ 1000 := Nat.le_trans (List.length_filterMap_le ..) L.good.few
      -- steps
      refine q_asgL (xs := vN (stepsOf m ps al i)) ?_ fun l H1 l0 e1 hl => ?_
      · have lc := el_lcL (K := K) (σ := [some (V.ref n), some (.ref a), some (.ref f), some (.int (i : Int)), o4, o5, none]) (H := H') (tl := tOp (rIxL K) (tVar 0) (tVar 3)) (j := 6) (vs := [6]) (t := tAnd (tTest (tOp (rIn K false) (tVar 6) (tVar 1))) (tTest (tOp (fun x y H Q => y = .non ∧ Q (.bl (!decide (x = .non))) H) (tOp (rIxL K) (tVar 2) (tVar 6)) (tC .non)))) (te := tOp (rIxL K) (tVar 2) (tVar 6)) (fun z => (fun q => decide (q ∈ al) && !(far m ps al q).isNone) ((rowOf ps i).getD z 0)) (fun z => (fun q => oV (far m ps al q)) ((rowOf ps i).getD z 0)) (ev_op (ev_var rfl) (ev_var rfl) (rv_ixL (ex_l e g1) (atI_nat hu))) (ex_l e hu2) (by rw [vN_len]; omega) (fun _ => rfl)
          (fun z y H1 e1 hz => by
            obtain ⟨rfl, hzl⟩ := getD_nat hz
            have hm : (rowOf ps i).getD z 0 < m := by
              rw [List.getD_eq_getElem?_getD, List.getElem?_eq_getElem hzl]
              exact rowOf_lt L.good (List.getElem_mem hzl)
            refine et_and (et_test (ev_is (ev_op (ev_var rfl) (ev_var rfl) (rv_isL (ex_l (e.trans e1) L.liv) rfl (vN_flat _))) (by rw [inV_nat]))) (fun _ => et_test (ev_is (ev_op (ev_op (ev_var rfl) (ev_var rfl) (rv_ixL (ex_l (e.trans e1) hf) (atI_nat (far_get hm)))) ev_c (z := .bl (!decide (oV (far m ps al ((rowOf ps i).getD z 0)) = .non))) (rv_val fun H e Q q => ⟨rfl, q⟩)) (by rw [oV_non]))))
          (fun z y H1 e1 hz _ => by
            obtain ⟨rfl, hzl⟩ := getD_nat hz
            have hm : (rowOf ps i).getD z 0 < m := by
              rw [List.getD_eq_getElem?_getD, List.getElem?_eq_getElem hzl]
              exact rowOf_lt L.good (List.getElem_mem hzl)
            exact ev_op (ev_var rfl) (ev_var rfl) (rv_ixL (ex_l (e.trans e1) hf) (atI_nat (far_get hm))))
        rw [vN_len, given_gen (rowOf ps i) (fun q => decide (q ∈ al) && !(far m ps al q).isNone) (fun q => oV (far m ps al q)), steps_given] at lc
        exact lc
      · -- due
        refine q_asg ev_c fun H2 e2 => ?_
        have e02 := (e.trans e1).trans e2
        have hl2 := e2 _ _ hl
        have test : ∀ {σ : L2.St}, σ[3]? = some (some (.int (i : Int))) → σ[1]? = some (some (.ref a)) → σ[4]? = some (some (.ref l)) → EvT (tAnd (tTest (tOp (rIn K false) (tVar 3) (tVar 1))) (tTest (tOp (rNeD K) (tVar 4) (tLst tNil)))) σ H2 (decide (i ∈ al) && !(stepsOf m ps al i).isEmpty) := fun h3 h1 h4 =>
          et_and (et_test (ev_is (ev_op (ev_var h3) (ev_var h1) (rv_isL (ex_l e02 L.liv) rfl (vN_flat _))) (by rw [inV_nat]))) (fun _ => et_test (ev_is (ev_opL (xs := []) (ev_var h4) (el_lst ea_nil (Nat.zero_le _)) (z := .bl (!PyData.eqv (dN (stepsOf m ps al i)) (.list []))) fun p H10 hp10 e10 => rv_val fun H11 e11 Q q => ⟨_, _, .lst (sq_of (e11 _ _ (e10 _ _ hl2))) (vN_dps _), .lst (sq_of (e11 _ _ hp10)) .nil, (sh_dN _).shaped (by decide), rfl, q⟩) (by rw [ne_nil])))
        -- the due value
        have last : ∀ (σ : L2.St) (H3 : Hp), Ex H H3 → σ = [some (V.ref n), some (.ref a), some (.ref f), some (.int (i : Int)), some (.ref l), some (oV (far m ps al i)), none] → ∀ {tr : TS} {Dx : Ends}, (∀ H4, Ex H H4 → Dx.nx σ H4) → tIfS (tNot (tB (tCl (spAlike K) E0 (tCons (tOp (rIxL K) (tVar 2) (tVar 3)) (tCons (tVar 5) tNil))))) tr tNext Dx σ H3 := by
          rintro σ H3 e3 rfl tr Dx kk
          exact s_when (b := !true) (et_not (et_B (ev_cl (ea_cons (ev_op (ev_var rfl) (ev_var rfl) (rv_ixL (ex_l e3 hf) (atI_nat (far_get him)))) (ea_cons (ev_var rfl) ea_nil)) (fun H4 e4 Q q E => ⟨_, _, oD (far m ps al i), rfl, oV_dp _, oV_dp _, rep_oD (by omega), q⟩)))) (fun h => nomatch h) fun _ H4 e4 => kk H4 (e3.trans e4)
        by_cases hi0 : i = 0
        · -- the root: whatever stood there, 0
          subst hi0
          have tail : ∀ (o : V) (H3 : Hp), Ex H H3 → ∀ {D : Ends} {tz : TS}, (∀ H4, Ex H H4 → tz D [some (V.ref n), some (.ref a), some (.ref f), some (.int ((0 : Nat) : Int)), some (.ref l), some (.int 0), none] H4) → tSeq (tIfS (tTest (tOp rEq (tVar 3) (tC (.int 0)))) (tAsg (tC (.int 0)) (gName 5)) tNext) tz D [some (V.ref n), some (.ref a), some (.ref f), some (.int ((0 : Nat) : Int)), some (.ref l), some o, none] H3 := fun o H3 e3 D tz kk =>
            q_when (b := true) (et_test (ev_op (ev_var rfl) ev_c (rv_eq rfl))) (fun _ H4 e4 => kk H4 (e3.trans e4)) (fun h => nomatch h)
          have fin : ∀ H4, Ex H H4 → ∀ {tr : TS} {Dx : Ends}, (∀ H5, Ex H H5 → Dx.nx [some (V.ref n), some (.ref a), some (.ref f), some (.int ((0 : Nat) : Int)), some (.ref l), some (.int 0), none] H5) → tIfS (tNot (tB (tCl (spAlike K) E0 (tCons (tOp (rIxL K) (tVar 2) (tVar 3)) (tCons (tVar 5) tNil))))) tr tNext Dx [some (V.ref n), some (.ref a), some (.ref f), some (.int ((0 : Nat) : Int)), some (.ref l), some (.int 0), none] H4 := fun H4 e4 tr Dx kk => last _ H4 e4 (by rw [far_root m0 L.lt]; rfl) kk
          refine q_if (test rfl rfl rfl) (fun hb H3 e3 => ?_) fun hb H3 e3 => ?_
          · rw [Bool.and_eq_true] at hb
            have ne : stepsOf m ps al 0 ≠ [] := fun z => by rw [z] at hb; cases hb.2
            obtain ⟨kk, hk1, hk2⟩ := has_min ne
            refine s_asg (v := .int (1 + (kk : Int))) (ev_op ev_c (ev_min (hl := e3 _ _ hl2) (ev_var rfl) hk1 hk2) rv_I0) fun H4 e4 => tail _ H4 ((e02.trans e3).trans e4) fun H5 e5 => fin H5 e5 fun H6 e6 => ⟨_, _, _, rfl, e6⟩
          · exact tail _ H3 (e02.trans e3) fun H5 e5 => fin H5 e5 fun H6 e6 => ⟨_, _, _, rfl, e6⟩
        · have skip : ∀ (o : V) (H3 : Hp), Ex H H3 → ∀ {D : Ends} {tz : TS}, (∀ H4, Ex H H4 → tz D [some (V.ref n), some (.ref a), some (.ref f), some (.int (i : Int)), some (.ref l), some o, none] H4) → tSeq (tIfS (tTest (tOp rEq (tVar 3) (tC (.int 0)))) (tAsg (tC (.int 0)) (gName 5)) tNext) tz D [some (V.ref n), some (.ref a), some (.ref f), some (.int (i : Int)), some (.ref l), some o, none] H3 := fun o H3 e3 D tz kk =>
            q_when (b := false) (et_test (ev_is (ev_op (ev_var rfl) ev_c (rv_eq rfl)) (by rw [decide_eq_false fun z => hi0 (by have := V.int.inj z; omega)]))) (fun h => nomatch h) (fun _ H4 e4 => kk H4 (e3.trans e4))
          rcases far_cases m0 L.lt L.root hi0 with ⟨hb, kk, hk1, hk2, hk3⟩ | ⟨hb, hn⟩
          · refine q_if (test rfl rfl rfl) (fun _ H3 e3 => ?_) (fun h => by rw [hb] at h; cases h)
            refine s_asg (v := oV (far m ps al i)) (ev_is (ev_op ev_c (ev_min (hl := e3 _ _ hl2) (ev_var rfl) hk1 hk2) rv_I0) (by rw [hk3]; show V.int _ = V.int _; congr 1)) fun H4 e4 => skip _ H4 ((e02.trans e3).trans e4) fun H5 e5 => last _ H5 e5 rfl fun H6 e6 => ⟨_, _, _, rfl, e6⟩
          · refine q_if (test rfl rfl rfl) (fun h => by rw [hb] at h; cases h) (fun _ H3 e3 => skip _ H3 (e02.trans e3) fun H5 e5 => last _ H5 e5 (by rw [hn]; rfl) fun H6 e6 => ⟨_, _, _, rfl, e6⟩)
    · rintro σ' H' ⟨o3, o4, o5, rfl, e⟩
      exact s_ret ev_c fun H1 e1 => k _ (e.trans e1)
end
end K15
end
section
set_option Elab.async false
set_option linter.all false
set_option maxRecDepth 100000
set_option maxHeartbeats 4000000
namespace K15
open PySem PySem.Spec PyProof.Rows L2 Lf Wm
open Evl
abbrev s_road : Stmt := topS 30
abbrev ns_road : List Str := ["_law_near_here", "_law_far", "_law_place", "_law_road_here", "_law_one"]
theorem sc_road : FnScope ns_road ["_law_near_here", "_law_far", "_law_place"] (defScope s_road) := ⟨rfl, rfl, rfl, by decide +kernel, rfl, by decide +kernel, by decide +kernel⟩
abbrev s_road_holds : Stmt := topS 15
abbrev ns_road_holds : List Str := ["web", "living", "place", "road", "things", "places", "alive", "thing", "each", "nearer"]
theorem sc_road_holds : FnScope ns_road_holds ["web", "living", "place", "road"] (defScope s_road_holds) := ⟨rfl, rfl, rfl, by decide +kernel, rfl, by decide +kernel, by decide +kernel⟩
def spRoad (K : PySem.W.Frag) : Sp := fun vs H Q _ => ∃ (v : V) (a f : Addr) (m : Nat) (ps : PS) (al : List Nat) (x k : Nat), vs = [v, .ref f, .int x] ∧ Liv K H v a m ps al ∧ SqL K H f (farV m ps al) ∧ far m ps al x = some k ∧ ∀ (l : Addr) (rs : List Nat) (H' : Hp), H l = none → Ex H H' → H' l = some (.lst (vN rs)) → Road ps al x rs → Q (.ref l) H'
def spRoadHolds (K : PySem.W.Frag) (C : Addr) : Sp := fun vs H Q _ => ∃ (p a r : Addr) (m : Nat) (ps : PS) (al rs : List Nat) (x : Nat), vs = [.ref p, .ref a, .int x, .ref r] ∧ WebAt K C H p m ps ∧ SqL K H a (vN al) ∧ al.length ≤ 30 ∧ (∀ y ∈ al, y < m) ∧ SqL K H r (vN rs) ∧ Road ps al x rs ∧ RetV (.bl true) H Q
section
variable {P : Program} {w : World} {K : PySem.W.Frag} {mg : Str → Option Value} {base : Heap} {C : Addr}
theorem c_road (D : Df K mg "_law_road" s_road ["_law_near_here", "_law_far", "_law_place"]) : Cal P w K mg base CX0 1 "_law_road" (spRoad K) := by
  refine D.cal sc_road (fun vs H Q E h => ?_) (fun f cdv A outer s H vs Q E g hr h => ?_)
  · obtain ⟨v, a, f, m, ps, al, x, k, rfl, _⟩ := h
    rfl
  · obtain ⟨v, a, f, m, ps, al, x, k0, rfl, L, hf, hx, k⟩ := h
    have m10 := L.good.m10
    have m2 := L.good.m2
    have m0 : 0 < m := by omega
    obtain ⟨n, rows, rfl, g1, g2, g3⟩ := near_at L.near
    have k0m := (dist_some.mp hx).1
    refine ⟨_, (pss_cons (ps_set (i := 3) sc_road.nd rfl (Or.inr rfl) (pe_lst (pa_cons (pv 2) pa_nil)))
    (pss_cons (ps_while PassesOwn.never (pt_cmpR op_gt (pe_ix (kix (K := K) (r := rIxL) ix_list rfl) (pv 1) (pe_ix (kix (K := K) (r := rIxL) ix_list rfl) (pv 3) (pe_un un_neg pe_int) (fun _ _ => rfl)) (fun _ _ => rfl)) pe_int (nomark _)) (pss_one (ps_expr (k_bm (K := K) rfl PySem.F.plainAttrs_list PySem.F.slot_list_append PySem.F.type_list_append mt_append (pv 3) (pa_cons (pe_ix (kix (K := K) (r := rIxL) ix_list rfl) (pe_lc (own := [("_law_one", 4)]) (g := (gName 4)) (by rfl) sc_road.nd (k_list (K := K) rfl (pe_ix (kix (K := K) (r := rIxL) ix_list rfl) (pv 0) (pe_ix (kix (K := K) (r := rIxL) ix_list rfl) (pv 3) (pe_un un_neg pe_int) (fun _ _ => rfl)) (fun _ _ => rfl))) (blkOk_by (own := [("_law_one", 4)]) (N := ns_road) (sc := defScope s_road) (by decide +kernel)) (fun _ _ _ _ _ => (pg_name (i := 4) sc_road.nd rfl (Or.inl rfl))) (fun _ _ _ _ _ => pts_one (pt_cmpR op_eq (pe_ix (kix (K := K) (r := rIxL) ix_list rfl) (pv 1) (pv 4) (fun _ _ => rfl)) (pe_op op_sub (pe_ix (kix (K := K) (r := rIxL) ix_list rfl) (pv 1) (pe_ix (kix (K := K) (r := rIxL) ix_list rfl) (pv 3) (pe_un un_neg pe_int) (fun _ _ => rfl)) (fun _ _ => rfl)) pe_int) (nomark _))) (fun _ _ _ _ _ => (pv 4))) (pe_un un_neg pe_int) (fun _ _ => rfl)) pa_nil)))))
    (pss_one (ps_ret (pv 3))))), ?_⟩
    refine q_asgL (el_lst (ea_cons (ev_var rfl) ea_nil) (by show 1 ≤ 100000; decide)) fun l H1 l0 e1 hl => ?_
    refine q_while (fun μ σ' H' => ∃ (pre : List Nat) (y k : Nat), σ' = [some (.ref n), some (.ref f), some (.int (x : Int)), some (.ref l), none] ∧ Ex H H' ∧ H' l = some (.lst (vN (pre ++ [y]))) ∧ far m ps al y = some k ∧ (pre ++ [y])[0]? = some x ∧ (∀ z ∈ pre ++ [y], z ∈ al) ∧ (∀ i z u, (pre ++ [y])[i]? = some z → (pre ++ [y])[i + 1]? = some u → u ∈ rowOf ps z) ∧ pre.length + k ≤ 20 ∧ μ = k) k0
      ⟨[], x, k0, rfl, e1, hl, hx, rfl, fun z hz => by rw [List.mem_singleton.mp hz]; exact far_in m0 L.lt L.root hx, fun i z u h1 h2 => by simp at h2, by simp; omega, rfl⟩ ?_
    rintro kk σ' H' ⟨pre, y, _, rfl, e, hl, hy, h0, hin, hadj, hlen, rfl⟩
    have hyal := hin y (List.mem_append_right _ (List.mem_singleton.mpr rfl))
    have hym := L.lt y hyal
    obtain ⟨u, hu, hu2⟩ := g3 y hym
    have hrow : (rowOf ps y).length ≤ 1000 := Nat.le_trans (List.length_filterMap_le ..) L.good.few
    -- far[road[-1]]
    have cur : ∀ {H2 : Hp}, Ex H' H2 → Ev (tOp (rIxL K) (tVar 1) (tOp (rIxL K) (tVar 3) (tUn (rU fun i => .int (-i)) (tC (.int 1))))) [some (V.ref n), some (.ref f), some (.int (x : Int)), some (.ref l), none] H2 (.int (kk : Int)) := fun {H2} e2 =>
      ev_op (ev_var rfl) (ev_op (ev_var rfl) (ev_un ev_c ru_neg) (rv_ixL (sq_of (e2 _ _ hl)) (vN_last _ _))) (rv_ixL (ex_l (e.trans e2) hf) (atI_nat (by rw [far_get hym, hy]; rfl)))
    refine ⟨decide ((0 : Int) < (kk : Int)), et_test (ev_op (cur (Ex.refl _)) ev_c rv_I0), fun hb H2 e2 => ?_, fun hb H2 e2 => ?_⟩
    · have hpos := of_decide_eq_true hb
      obtain ⟨k1, rfl⟩ : ∃ k1, kk = k1 + 1 := ⟨kk - 1, by omega⟩
      obtain ⟨_, q, hq1, hq2⟩ := far_pred m0 L.lt hy
      have fne : ((rowOf ps y).filter fun q => decide (far m ps al q = some k1)) ≠ [] := fun z => by
        have h9 : q ∈ (rowOf ps y).filter fun q => decide (far m ps al q = some k1) := List.mem_filter.mpr ⟨hq1, decide_eq_true hq2⟩
        rw [z] at h9
        cases h9
      obtain ⟨fp, z, hfz⟩ := snoc_of fne
      have hz : z ∈ (rowOf ps y).filter fun q => decide (far m ps al q = some k1) := by rw [hfz]; exact List.mem_append_right _ (List.mem_singleton.mpr rfl)
      obtain ⟨hz1, hz2⟩ := List.mem_filter.mp hz
      have hz2 := of_decide_eq_true hz2
      refine ⟨fun σ2 H3 => ∃ (pre : List Nat) (y k : Nat), σ2 = [some (.ref n), some (.ref f), some (.int (x : Int)), some (.ref l), none] ∧ Ex H H3 ∧ H3 l = some (.lst (vN (pre ++ [y]))) ∧ far m ps al y = some k ∧ (pre ++ [y])[0]? = some x ∧ (∀ z ∈ pre ++ [y], z ∈ al) ∧ (∀ i z u, (pre ++ [y])[i]? = some z → (pre ++ [y])[i + 1]? = some u → u ∈ rowOf ps z) ∧ pre.length + k ≤ 20 ∧ k < k1 + 1, fun σ2 H3 h => ?_, ?_⟩
      · obtain ⟨pre, y, k, a1, a2, a3, a4, a5, a6, a7, a8, a9⟩ := h
        exact ⟨k, a9, pre, y, k, a1, a2, a3, a4, a5, a6, a7, a8, rfl⟩
      · have lc := el_lcL (K := K) (σ := [some (V.ref n), some (.ref f), some (.int (x : Int)), some (.ref l), none]) (H := H2) (tl := tOp (rIxL K) (tVar 0) (tOp (rIxL K) (tVar 3) (tUn (rU fun i => .int (-i)) (tC (.int 1))))) (j := 4) (vs := [4]) (t := tTest (tOp rEq (tOp (rIxL K) (tVar 1) (tVar 4)) (tOp (rI0 fun i j => .int (i - j)) (tOp (rIxL K) (tVar 1) (tOp (rIxL K) (tVar 3) (tUn (rU fun i => .int (-i)) (tC (.int 1))))) (tC (.int 1))))) (te := tVar 4) (fun i => (fun q => decide (far m ps al q = some k1)) ((rowOf ps y).getD i 0)) (fun i => V.int (((rowOf ps y).getD i 0 : Nat) : Int))
          (ev_op (ev_var rfl) (ev_op (ev_var rfl) (ev_un ev_c ru_neg) (rv_ixL (sq_of (e2 _ _ hl)) (vN_last _ _))) (rv_ixL (ex_l (e.trans e2) g1) (atI_nat hu))) (ex_l (e.trans e2) hu2) (by rw [vN_len]; omega) (fun _ => rfl)
          (fun i c H3 e3 hi => by
            obtain ⟨rfl, hil⟩ := getD_nat hi
            have hm : (rowOf ps y).getD i 0 < m := by
              rw [List.getD_eq_getElem?_getD, List.getElem?_eq_getElem hil]
              exact rowOf_lt L.good (List.getElem_mem hil)
            have ek : ((k1 + 1 : Nat) : Int) - 1 = (k1 : Int) := by omega
            have rt : Ev (tOp (rI0 fun i j => .int (i - j)) (tOp (rIxL K) (tVar 1) (tOp (rIxL K) (tVar 3) (tUn (rU fun i => .int (-i)) (tC (.int 1))))) (tC (.int 1))) [some (V.ref n), some (.ref f), some (.int (x : Int)), some (.ref l), some (.int (((rowOf ps y).getD i 0 : Nat) : Int))] H3 (.int (k1 : Int)) := by
              have h9 : Ev (tOp (rI0 fun i j => .int (i - j)) (tOp (rIxL K) (tVar 1) (tOp (rIxL K) (tVar 3) (tUn (rU fun i => .int (-i)) (tC (.int 1))))) (tC (.int 1))) [some (V.ref n), some (.ref f), some (.int (x : Int)), some (.ref l), some (.int (((rowOf ps y).getD i 0 : Nat) : Int))] H3 (.int (((k1 + 1 : Nat) : Int) - 1)) :=
                ev_op (ev_op (ev_var rfl) (ev_op (ev_var rfl) (ev_un ev_c ru_neg) (rv_ixL (sq_of ((e2.trans e3) _ _ hl)) (vN_last _ _))) (rv_ixL (ex_l ((e.trans e2).trans e3) hf) (atI_nat (by rw [far_get hym, hy]; rfl)))) ev_c rv_I0
              rw [ek] at h9
              exact h9
            exact et_test (ev_is (ev_op (ev_op (ev_var rfl) (ev_var rfl) (rv_ixL (ex_l ((e.trans e2).trans e3) hf) (atI_nat (far_get hm)))) rt (rv_eq (oV_scal _ _))) (by rw [oV_int])))
          (fun i c H3 e3 hi _ => by
            obtain ⟨rfl, _⟩ := getD_nat hi
            exact ev_var rfl)
        rw [vN_len, given_filter (rowOf ps y) (fun q => decide (far m ps al q = some k1)), hfz] at lc
        refine s_app (xs := vN (pre ++ [y])) (e2 _ _ hl) (ev_var rfl) (ev_opL1 lc (fun _ _ => ev_un ev_c ru_neg) (fun p H4 hp e4 => rv_ixL (sq_of hp) (vN_last _ _))) (by rw [vN_len, List.length_append, List.length_singleton]; omega) fun H3 e3 => ?_
        refine ⟨pre ++ [y], z, k1, rfl, Ex.mut ((e.trans e2).trans e3) (fresh_back (Ex.refl _) l0), ?_, hz2, ?_, ?_, ?_, ?_, by omega⟩
        · rw [upd_same, ← vN_snoc]
        · rw [List.getElem?_append_left (by rw [List.length_append, List.length_singleton]; omega)]
          exact h0
        · intro c hc
          rcases List.mem_append.mp hc with h | h
          · exact hin c h
          · rw [List.mem_singleton.mp h]
            exact far_in m0 L.lt L.root hz2
        · intro i c d hc hd
          have hdl := (List.getElem?_eq_some_iff.mp hd).1
          rw [List.length_append, List.length_append, List.length_singleton, List.length_singleton] at hdl
          rw [List.getElem?_append_left (by rw [List.length_append, List.length_singleton]; omega)] at hc
          by_cases hi : i + 1 < (pre ++ [y]).length
          · rw [List.getElem?_append_left hi] at hd
            exact hadj i c d hc hd
          · rw [List.length_append, List.length_singleton] at hi
            have ei : i = pre.length := by omega
            subst ei
            rw [List.getElem?_append_right (by omega), Nat.sub_self] at hc
            rw [List.getElem?_append_right (by rw [List.length_append, List.length_singleton]; omega), List.length_append, List.length_singleton, Nat.sub_self] at hd
            cases hc
            cases hd
            exact hz1
        · rw [List.length_append, List.length_singleton]
          omega
    · have hz : ¬ (0 : Int) < (kk : Int) := of_decide_eq_false hb
      have e0 : kk = 0 := by omega
      subst e0
      have hy0 : y = 0 := of_decide_eq_true ((far_some m0 L.lt).mp hy).1
      subst hy0
      exact ⟨_, rfl, k l _ _ l0 (e.trans e2) (e2 _ _ hl) ⟨h0, ⟨pre, rfl⟩, hin, hadj, by rw [List.length_append, List.length_singleton]; omega⟩⟩
theorem c_road_holds (D : Df K mg "road_holds" s_road_holds ["web", "living", "place", "road"]) (T : TxtB K mg) (c_list_of : Cal P w K mg base CX0 1 "list_of" (spList K)) (c_number_of : Cal P w K mg base CX0 1 "number_of" (spNumber K)) (c_Web_neighbours : Met P w K mg base CX0 4 C "neighbours" (spWNear K C)) :
    Cal P w K mg base CX0 5 "road_holds" (spRoadHolds K C) := by
  refine D.cal sc_road_holds (fun vs H Q E h => ?_) (fun f cdv A outer s H vs Q E g hr h => ?_)
  · obtain ⟨p, a, r, m, ps, al, rs, x, rfl, _⟩ := h
    rfl
  · obtain ⟨p, a, r, m, ps, al, rs, x, rfl, hW, ha, la, hal, hrs, R, k⟩ := h
    have hW' := hW
    obtain ⟨hg, dx, c1, c2, hp, h1, h2⟩ := hW'
    have few := R.few
    have hpos : 0 < rs.length := (List.getElem?_eq_some_iff.mp R.first).1
    obtain ⟨pre, hpre⟩ := R.last
    refine ⟨_, (pss_cons (ps_set (i := 4) sc_road_holds.nd rfl (Or.inl rfl) (ec c_list_of g hr (by decide) pass0 (by rfl) (pa_cons (pv 3) pa_nil)))
    (pss_cons (ps_if (pt_not (k_truth (K := K) rfl (pv 4) (by intro _; rfl))) (pss_one (ps_ret pe_bl)) pss_nil)
    (pss_cons (ps_setLc (i := 5) (own := [("thing", 7)]) (g := (gName 7)) (tt := tYes) (by rfl) sc_road_holds.nd rfl rfl (sw_true rfl rfl rfl (by decide +kernel)) (k_list (K := K) rfl (pv 4)) (blkOk_by (own := [("thing", 7)]) (N := ns_road_holds) (sc := defScope s_road_holds) (by decide +kernel)) (fun _ _ _ _ _ => (pg_name (i := 7) sc_road_holds.nd rfl (Or.inl rfl))) (fun _ _ _ _ _ => pts_nil) (fun _ _ _ _ _ => (ec c_number_of g hr (by decide) pass0 (by rfl) (pa_cons (pv 7) pa_nil))))
    (pss_cons (ps_set (i := 6) sc_road_holds.nd rfl (Or.inr rfl) (pe_lc (own := [("thing", 7)]) (g := (gName 7)) (tt := tYes) (by rfl) sc_road_holds.nd (k_list (K := K) rfl (pv 1)) (blkOk_by (own := [("thing", 7)]) (N := ns_road_holds) (sc := defScope s_road_holds) (by decide +kernel)) (fun _ _ _ _ _ => (pg_name (i := 7) sc_road_holds.nd rfl (Or.inl rfl))) (fun _ _ _ _ _ => pts_nil) (fun _ _ _ _ _ => (ec c_number_of g hr (by decide) pass0 (by rfl) (pa_cons (pv 7) pa_nil)))))
    (pss_cons (ps_if (PW.pt (pw_or (pt_cmpR op_ne (pe_ix (kix (K := K) (r := rIxL) ix_list rfl) (pv 5) pe_int (fun _ _ => rfl)) (ec c_number_of g hr (by decide) pass0 (by rfl) (pa_cons (pv 2) pa_nil)) (nomark _)) (pw_or1 (pt_cmpR op_ne (pe_ix (kix (K := K) (r := rIxL) ix_list rfl) (pv 5) (pe_un un_neg pe_int) (fun _ _ => rfl)) pe_int (nomark _))))) (pss_one (ps_ret pe_bl)) pss_nil)
    (pss_cons (ps_if (pt_val (pe_callB (kcr (K := K) (r := rAny) (cr_any rfl) rfl) (by rfl) T.n_any (by decide +kernel) (pa_cons (pe_lc (own := [("each", 8)]) (g := (gName 8)) (tt := tYes) (by rfl) sc_road_holds.nd (k_list (K := K) rfl (pv 5)) (blkOk_by (own := [("each", 8)]) (N := ns_road_holds) (sc := defScope s_road_holds) (by decide +kernel)) (fun _ _ _ _ _ => (pg_name (i := 8) sc_road_holds.nd rfl (Or.inl rfl))) (fun _ _ _ _ _ => pts_nil) (fun _ _ _ _ _ => (pe_cmpR (kop (K := K) (r := fun K => rIn K true) op_notIn_seq rfl) (pv 8) (pv 6) rfl))) pa_nil))) (pss_one (ps_ret pe_bl)) pss_nil)
    (pss_one (ps_ret (pe_callB (kcr (K := K) (r := rAll) (cr_all rfl) rfl) (by rfl) T.n_all (by decide +kernel) (pa_cons (pe_lc (own := [("each", 8), ("nearer", 9)]) (g := (gTup K 2 (gCons (gName 8) (gCons (gName 9) gNil)))) (tt := tYes) (by rfl) sc_road_holds.nd (k_zip (K := K) rfl (by rfl) T.n_zip (pa_cons (pv 5) (pa_cons (pe_slice (ksl (K := K) (r := rSlL) sl_list rfl) (pv 5) (po_some pe_int) po_none) pa_nil))) (blkOk_by (own := [("each", 8), ("nearer", 9)]) (N := ns_road_holds) (sc := defScope s_road_holds) (by decide +kernel)) (fun _ _ _ _ _ => (k_gtup (K := K) rfl (by rfl) (pgs_cons (pg_name (i := 8) sc_road_holds.nd rfl (Or.inl rfl)) (pgs_cons (pg_name (i := 9) sc_road_holds.nd rfl (Or.inl rfl)) pgs_nil)))) (fun _ _ _ _ _ => pts_nil) (fun _ _ _ _ _ => (pe_cmpR (kop (K := K) (r := fun K => rIn K false) op_in_seq rfl) (pv 9) (emt c_Web_neighbours g hr (by decide) pass0 (pv 0) (pa_cons (pv 8) pa_nil)) rfl))) pa_nil)))))))))), ?_⟩
    refine q_asgL (el_cl (ea_cons (ev_var rfl) ea_nil) (fun H1 e Q q E => ⟨r, _, rfl, ex_l e hrs, q⟩)) fun t H1 _ e1 ht => ?_
    refine q_when (b := !true) (et_not (et_is (et_tr (ev_var rfl) (fun H2 e2 => sq_of (e2 _ _ ht))) (by
      cases rs with
      | nil => cases hpos
      | cons _ _ => rfl))) (fun h => nomatch h) fun _ H2 e2 => ?_
    refine q_asgL (el_nums (ev_var rfl) (sq_of (e2 _ _ ht)) (by omega) (fun _ => rfl) (fun _ => rfl)) fun n H3 n0 e3 hn => ?_
    have e13 := (e1.trans e2).trans e3
    refine q_asgL (el_nums (ev_var rfl) (ex_l e13 ha) (by omega) (fun _ => rfl) (fun _ => rfl)) fun v H4 v0 e4 hv => ?_
    have hn4 := e4 _ _ hn
    have e14 := e13.trans e4
    have first : atI (vN rs) 0 = some (.int (x : Int)) := atI_nat (j := 0) (vN_get R.first)
    have last : atI (vN rs) (-1) = some (.int ((0 : Nat) : Int)) := by rw [hpre]; exact vN_last _ _
    refine q_when (b := false || false) (et_or (et_test (ev_is (ev_op (ev_op (ev_var rfl) ev_c (rv_ixL (sq_of hn4) first)) (ev_cl (ea_cons (ev_var rfl) ea_nil) sv_number) (rv_ne rfl)) (by rw [decide_eq_true rfl]; rfl))) (fun _ => et_test (ev_is (ev_op (ev_op (ev_var rfl) (ev_un ev_c ru_neg) (rv_ixL (sq_of hn4) last)) ev_c (rv_ne rfl)) rfl))) (fun h => nomatch h) fun _ H5 e5 => ?_
    have e15 := e14.trans e5
    refine q_when (b := false) (et_B (ev_is (ev_any (bs := (List.range (vN rs).length).map fun i => !decide (rs.getD i 0 ∈ al)) ?_) ?_)) (fun h => nomatch h) fun _ H6 e6 => ?_
    · rw [← bl_map]
      refine el_map _ (ev_var rfl) (sq_of (e5 _ _ hn4)) (by rw [vN_len]; omega) (fun _ => rfl) fun i c H6 e6 hi => ?_
      obtain ⟨rfl, hil⟩ := getD_nat hi
      exact ev_is (ev_op (ev_var rfl) (ev_var rfl) (rv_niL (sq_of (e6 _ _ (e5 _ _ hv))) rfl (vN_flat _))) (by rw [inV_nat])
    · congr 1
      rw [List.any_map, List.any_eq_false]
      intro i hi
      have hil : i < rs.length := by rw [vN_len] at hi; exact List.mem_range.mp hi
      show ¬ (!decide (rs.getD i 0 ∈ al)) = true
      rw [List.getD_eq_getElem?_getD, List.getElem?_eq_getElem hil, decide_eq_true (show (some rs[i]).getD 0 ∈ al from R.ins _ (List.getElem_mem hil))]
      decide
    · have e16 := e15.trans e6
      have hn6 := e6 _ _ (e5 _ _ hn4)
      refine s_ret (v := .bl true) (ev_is (ev_all (bs := (List.range (rs.length - 1)).map fun i => decide (rs.getD (i + 1) 0 ∈ rowOf ps (rs.getD i 0))) ?_) ?_) (fun H7 e7 => k _ (e16.trans e7))
      · rw [List.map_map]
        refine el_mapZ (a := n) (xs := vN rs) (ys := (vN rs).drop 1) (V.bl ∘ fun i => decide (rs.getD (i + 1) 0 ∈ rowOf ps (rs.getD i 0))) (fun H7 e Q q => ?_) (sq_of hn6) ?_ (by omega) (fun _ _ => rfl) (fun i c d H7 e7 h1 h2 => ?_)
        · refine ⟨_, rfl, _, rfl, 1, rfl, n, vN rs, rfl, sq_of (e _ _ hn6), fun p hp => q p _ (Ex.new hp) ?_⟩
          rw [cut1]
          exact sq_of upd_same
        · rw [List.length_drop, vN_len]
          omega
        · obtain ⟨rfl, hi⟩ := getD_nat h1
          rw [List.getElem?_drop, Nat.add_comm 1 i] at h2
          obtain ⟨rfl, hi2⟩ := getD_nat h2
          have hm : rs.getD i 0 < m := by
            rw [List.getD_eq_getElem?_getD, List.getElem?_eq_getElem hi]
            exact hal _ (R.ins _ (List.getElem_mem hi))
          exact ev_is (ev_opL (xs := vN (rowOf ps (rs.getD i 0))) (ev_var rfl) (el_mt (ev_var rfl) ((e16.trans e7) _ _ hp) (no_m (by decide +kernel)) (ea_cons (ev_var rfl) ea_nil) (fun H8 e8 Q q E => ⟨p, m, ps, _, rfl, hW.ex ((e16.trans e7).trans e8), hm, q⟩)) fun t H8 ht e8 => rv_isL (sq_of ht) rfl (vN_flat _)) (by rw [inV_nat]; rfl)
      · congr 1
        rw [List.all_map, List.all_eq_true]
        intro i hi
        have hi := List.mem_range.mp hi
        have i1 : i < rs.length := by omega
        have i2 : i + 1 < rs.length := by omega
        show decide (rs.getD (i + 1) 0 ∈ rowOf ps (rs.getD i 0)) = true
        rw [List.getD_eq_getElem?_getD, List.getD_eq_getElem?_getD, List.getElem?_eq_getElem i1, List.getElem?_eq_getElem i2]
        exact decide_eq_true (R.adj i _ _ (List.getElem?_eq_getElem i1) (List.getElem?_eq_getElem i2))
end
end K15
end
section
set_option Elab.async false
set_option linter.all false
set_option maxRecDepth 100000
set_option maxHeartbeats 4000000
namespace K15
open PySem PySem.Spec PyProof.Rows L2 Lf Wm
open Evl
abbrev s_cuts_right : Stmt := topS 32
abbrev ns_cuts_right : List Str := ["_law_bag_here", "_law_web_here", "_law_near_here", "_law_living_here", "_law_cut", "_law_first", "_law_some", "_law_at", "_law_less", "_law_one"]
theorem sc_cuts_right : FnScope ns_cuts_right ["_law_bag_here", "_law_web_here", "_law_near_here", "_law_living_here", "_law_cut"] (defScope s_cuts_right) := ⟨rfl, rfl, rfl, by decide +kernel, rfl, by decide +kernel, by decide +kernel⟩
def spCutsRight (K : PySem.W.Frag) (C : Addr) : Sp := fun vs H Q _ => ∃ (b : Addr × Addr) (x a c : Addr) (v : V) (m : Nat) (ps : PS) (al : List Nat), vs = [.ref b.1, .ref x, v, .ref a, .ref c] ∧ Bag H b ∧ WebAt K C (mask b.1 H) x m ps ∧ Liv K (mask b.1 H) v a m ps al ∧ SqL K (mask b.1 H) c (vN (cutOf m ps al)) ∧ ∀ H', Step b H H' → Q (.bl true) H'
section
variable {P : Program} {w : World} {K : PySem.W.Frag} {mg : Str → Option Value} {base : Heap} {C : Addr}
theorem c_cuts_right (D : Df K mg "_law_cuts_right" s_cuts_right ["_law_bag_here", "_law_web_here", "_law_near_here", "_law_living_here", "_law_cut"]) (T : TxtT K mg) (c_cut_holds : Cal P w K mg base CX0 5 "cut_holds" (spCutHolds K C)) (c_closed : Cal P w K mg base CX0 1 "_law_closed" (spClosed K)) (c_take : Cal P w K mg base CX0 1 "_law_take" spTake) : Cal P w K mg base CX0 6 "_law_cuts_right" (spCutsRight K C) := by
  refine D.cal sc_cuts_right (fun vs H Q E h => ?_) (fun f cdv A outer s H vs Q E g hr h => ?_)
  · obtain ⟨b, x, a, c, v, m, ps, al, rfl, _⟩ := h
    rfl
  · obtain ⟨b, x, a, c, v, m, ps, al, rfl, hb, fW, fL, fc, k⟩ := h
    have m10 := fL.good.m10
    have m2 := fL.good.m2
    have m0 : 0 < m := by omega
    have few := fL.few
    have hal := fL.lt
    have lcut : (cutOf m ps al).length ≤ al.length := List.length_filter_le ..
    have hW : ∀ {H1 : Hp}, Step b H H1 → WebAt K C H1 x m ps := fun s => (fW.ex s.2).ex (mask_le _ _)
    have hL : ∀ {H1 : Hp}, Step b H H1 → Liv K H1 v a m ps al := fun s => (fL.ex s.2).ex (mask_le _ _)
    have hc : ∀ {H1 : Hp}, Step b H H1 → SqL K H1 c (vN (cutOf m ps al)) := fun s => ex_l (mask_le _ _) (ex_l s.2 fc)
    have pu : ∀ {H1 H2 : Hp}, Step b H H1 → Ex H1 H2 → Step b H H2 := fun s e => s.trans (.pure s.1 e)
    have s0 : Step b H H := .refl hb
    refine ⟨_, (pss_cons (ps_if (PW.pt (pw_or (pt_cmpR op_notBl (ec c_cut_holds g hr (by decide) pass0 (by rfl) (pa_cons (pv 1) (pa_cons (pv 3) (pa_cons (pv 4) pa_nil)))) pe_bl (nomark _)) (pw_or1 (pt_cmpR op_notBl (ec c_cut_holds g hr (by decide) pass0 (by rfl) (pa_cons (pv 1) (pa_cons (pv 3) (pa_cons (pe_lst pa_nil) pa_nil)))) pe_bl (nomark _))))) (pss_one (ps_ret pe_bl)) pss_nil)
    (pss_cons (ps_for PassesOwn.never rfl (k_list (K := K) rfl (pv 3)) (pg_name (i := 5) sc_cuts_right.nd rfl (Or.inl rfl)) (pss_cons (ps_set (i := 6) sc_cuts_right.nd rfl (Or.inl rfl) (ec c_closed g hr (by decide) pass0 (by rfl) (pa_cons (pv 2) (pa_cons (pv 3) (pa_cons (pv 5) pa_nil)))))
        (pss_cons (ps_if (pt_cmpR op_ne (ec c_cut_holds g hr (by decide) pass0 (by rfl) (pa_cons (pv 1) (pa_cons (pv 3) (pa_cons (pv 6) pa_nil)))) (pe_cmpR (kop (K := K) (r := fun K => rIn K true) op_notIn_seq rfl) pe_int (pv 6) rfl) (nomark _)) (pss_one (ps_ret pe_bl)) pss_nil)
        (pss_cons (ps_if (PW.pt (pw_and (pt_cmpR (kop (K := K) (r := fun K => rIn K true) op_notIn_seq rfl) pe_int (pv 6) rfl) (pw_and1 (pt_cmpR (kop (K := K) (r := rNeD) (op_neD hr.units) rfl) (pe_lc (own := [("_law_one", 9)]) (g := (gName 9)) (by rfl) sc_cuts_right.nd (k_list (K := K) rfl (pv 6)) (blkOk_by (own := [("_law_one", 9)]) (N := ns_cuts_right) (sc := defScope s_cuts_right) (by decide +kernel)) (fun _ _ _ _ _ => (pg_name (i := 9) sc_cuts_right.nd rfl (Or.inl rfl))) (fun _ _ _ _ _ => pts_one (pt_cmpR (kop (K := K) (r := fun K => rIn K true) op_notIn_seq rfl) (pv 9) (pv 4) rfl)) (fun _ _ _ _ _ => (pv 9))) (pe_lst pa_nil) (nomark _))))) (pss_one (ps_ret pe_bl)) pss_nil)
        (pss_one (ps_if (pt_cmpR op_gt (pe_callB (k_len (K := K) rfl) (by rfl) T.n_len PySem.boot_len (pa_cons (pv 6) pa_nil)) pe_int (nomark _)) (pss_cons (ps_set (i := 7) sc_cuts_right.nd rfl (Or.inl rfl) (ec c_take g hr (by decide) pass0 (by rfl) (pa_cons (pv 0) (pa_cons (pe_callB (k_len (K := K) rfl) (by rfl) T.n_len PySem.boot_len (pa_cons (pv 6) pa_nil)) pa_nil))))
            (pss_cons (ps_set (i := 8) sc_cuts_right.nd rfl (Or.inl rfl) (pe_op op_cat (pe_slice (ksl (K := K) (r := rSlL) sl_list rfl) (pv 6) po_none (po_some (pv 7))) (pe_slice (ksl (K := K) (r := rSlL) sl_list rfl) (pv 6) (po_some (pe_op op_add (pv 7) pe_int)) po_none)))
            (pss_one (ps_if (pt_cmpR op_notBl (ec c_cut_holds g hr (by decide) pass0 (by rfl) (pa_cons (pv 1) (pa_cons (pv 3) (pa_cons (pv 8) pa_nil)))) pe_bl (nomark _)) (pss_one (ps_ret pe_bl)) pss_nil)))) pss_nil))))))
    (pss_one (ps_ret pe_bl)))), ?_⟩
    -- the cut, and none
    refine q_when (b := false || false) (et_or (et_test (ev_op (ev_cl (z := .bl true) (ea_cons (ev_var rfl) (ea_cons (ev_var rfl) (ea_cons (ev_var rfl) ea_nil))) (fun H1 e1 Q q E => ⟨x, a, c, m, ps, al, cutOf m ps al, rfl, hW (pu s0 e1), (hL (pu s0 e1)).liv, hc (pu s0 e1), few, by omega, hal, by rw [cut_ok m0 hal fL.pw (fun p hp => hp)]; exact q⟩)) ev_c (z := .bl false) (rv_val fun H e Q q => ⟨true, true, rfl, rfl, q⟩)))
      (fun _ => et_test (ev_op (ev_clF (z := .bl true) (ef_cons (ev_var rfl) (ef_cons (ev_var rfl) (ef_consL (el_lst ea_nil (Nat.zero_le _)) ef_nil))) (fun vs H1 e1 p H2 e2 Q q E => by
        obtain ⟨us, rfl, us, rfl, r, us, rfl, _, hr2, rfl⟩ := p
        exact ⟨x, a, r, m, ps, al, [], rfl, hW (pu s0 (e1.trans e2)), (hL (pu s0 (e1.trans e2))).liv, sq_of (e2 _ _ hr2), few, Nat.zero_le _, hal, by rw [cut_empty]; exact q⟩)) ev_c (z := .bl false) (rv_val fun H e Q q => ⟨true, true, rfl, rfl, q⟩)))) (fun h => nomatch h) fun _ H1 e1 => ?_
    have s1 := pu s0 e1
    -- each living one
    refine q_forLn (xs := vN al) (ev_var rfl) (hL s1).liv (fun i σ' H' => ∃ o5 o6 o7 o8, σ' = [some (.ref b.1), some (.ref x), some v, some (.ref a), some (.ref c), o5, o6, o7, o8, none] ∧ Step b H H') (fun H2 e2 => ⟨none, none, none, none, rfl, pu s1 e2⟩) (fun i σ' H' _ h => ?_) (fun i y σ' H' hy h => ?_) (fun σ' H' h => ?_)
    · obtain ⟨_, _, _, _, _, s⟩ := h
      exact (hL s).liv
    · obtain ⟨o5, o6, o7, o8, rfl, s2⟩ := h
      obtain ⟨first, rfl, hf⟩ := vN_at hy
      have hfal : first ∈ al := List.mem_of_getElem? hf
      have hsing : ∀ z ∈ [first], z ∈ al := fun z hz => by rw [List.mem_singleton.mp hz]; exact hfal
      have L2 := hL s2
      -- some = closed(near, living, first)
      refine q_asgL (xs := vN (spreads ps al [first] m)) (el_cl (ea_cons (ev_var rfl) (ea_cons (ev_var rfl) (ea_cons (ev_var rfl) ea_nil))) (fun H3 e3 Q q E => ⟨v, a, m, ps, al, first, rfl, L2.ex e3, hfal, q⟩)) fun l H3 l0 e3 hl => ?_
      have s3 := pu s2 e3
      have nbl : l ≠ b.1 := s2.1.ne l0
      have cl : Closed ps al (spreads ps al [first] m) := closed_end hsing hal (fun z => nomatch z)
      have sub : ∀ z ∈ spreads ps al [first] m, z ∈ al := fun z hz => spreads_al hsing hz
      have pS : (spreads ps al [first] m).Pairwise (· < ·) := spread_pw fL.pw m0
      have lS : (spreads ps al [first] m).length ≤ 30 := by
        obtain ⟨n, rfl⟩ : ∃ n, m = n + 1 := ⟨m - 1, by omega⟩
        exact Nat.le_trans (List.length_filter_le ..) few
      have sym : ∀ a b, a ∈ rowOf ps b → b ∈ rowOf ps a := fun a b => row_sym fL.good
      generalize hS : spreads ps al [first] m = S at *
      have says : cutHolds ps al S = !decide (0 ∈ S) := by
        by_cases h : 0 ∈ S
        · rw [cut_root h, decide_eq_true h]
          rfl
        · rw [cut_closed cl sub pS sym h, decide_eq_false h]
          rfl
      -- if cut_holds(web, living, some) != (0 not in some)
      refine q_when (b := false) (et_test (ev_is (ev_op (ev_cl (z := .bl (cutHolds ps al S)) (ea_cons (ev_var rfl) (ea_cons (ev_var rfl) (ea_cons (ev_var rfl) ea_nil))) (fun H4 e4 Q q E => ⟨x, a, l, m, ps, al, S, rfl, hW (pu s3 e4), (hL (pu s3 e4)).liv, sq_of (e4 _ _ hl), few, lS, hal, q⟩)) (ev_is (w := .bl (!decide (0 ∈ S))) (ev_op ev_c (ev_var rfl) (rv_niL (sq_of hl) rfl (vN_flat _))) (by rw [show (V.int 0) = V.int ((0 : Nat) : Int) from rfl, inV_nat])) (rv_ne rfl)) (by rw [says, decide_eq_true rfl]; rfl))) (fun h => nomatch h) fun _ H4 e4 => ?_
      have s4 := pu s3 e4
      have hl4 := e4 _ _ hl
      -- if 0 not in some and [..] != []
      refine q_when (b := !decide (0 ∈ S) && false) (et_and (et_test (ev_is (w := .bl (!decide (0 ∈ S))) (ev_op ev_c (ev_var rfl) (rv_niL (sq_of hl4) rfl (vN_flat _))) (by rw [show (V.int 0) = V.int ((0 : Nat) : Int) from rfl, inV_nat]))) (fun h0 => et_test (ev_is (ev_neLL (K := K) (xs := []) (ys := []) (d := .list []) (e := .list []) ?_ (el_lst ea_nil (Nat.zero_le _)) (fun p H3 _ hp => .lst (sq_of hp) .nil) (fun p H3 _ hp => .lst (sq_of hp) .nil) rfl rfl) rfl))) (fun h => by rw [Bool.and_false] at h; cases h) fun _ H5 e5 => ?_
      · have n0 : 0 ∉ S := by
          intro h
          rw [decide_eq_true h] at h0
          cases h0
        have lc := el_lcL (K := K) (σ := [some (V.ref b.1), some (.ref x), some v, some (.ref a), some (.ref c), some (.int (first : Int)), some (.ref l), o7, o8, none]) (H := H4) (tl := tVar 6) (j := 9) (vs := [9]) (t := tTest (tOp (rIn K true) (tVar 9) (tVar 4))) (te := tVar 9) (fun _ => false) (fun i => V.non) (ev_var rfl) (sq_of hl4) (by rw [vN_len]; omega) (fun _ => rfl)
          (fun i z H5 e5 hi => by
            obtain ⟨n, rfl, hn⟩ := vN_at hi
            have hnS := List.mem_of_getElem? hn
            refine et_test (ev_is (ev_op (ev_var rfl) (ev_var rfl) (rv_niL (hc (pu s4 e5)) rfl (vN_flat _))) ?_)
            have hcut : n ∈ cutOf m ps al := List.mem_filter.mpr ⟨sub n hnS, by
              rw [Option.isNone_iff_eq_none, far_none m0 hal]
              exact fun k => closed_far m0 hal fL.root cl sub sym n0 hnS⟩
            rw [inV_nat, decide_eq_true hcut]
            rfl)
          (fun i z H5 e5 hi h => nomatch h)
        have ge : given (vN S).length (fun _ => false) (fun _ => V.non) = [] := by
          unfold given
          rw [List.filter_eq_nil_iff.mpr fun _ _ => Bool.false_ne_true]
          rfl
        rw [ge] at lc
        exact lc
      -- if len(some) > 1
      have s5 := pu s4 e5
      have hl5 := e5 _ _ hl4
      refine s_when (b := decide ((1 : Int) < ((vN S).length : Int))) (et_test (ev_op (ev_lenL (ev_var rfl) (sq_of hl5)) ev_c rv_I0)) (fun hb1 H6 e6 => ?_) fun _ H6 e6 => ⟨_, _, _, _, rfl, pu s5 e6⟩
      have h1 : 1 < S.length := by
        have := of_decide_eq_true hb1
        rw [vN_len] at this
        omega
      have s6 := pu s5 e6
      have hl6 := e6 _ _ hl5
      -- at = take(bag, len(some))
      refine ⟨_, rfl, _, rfl, l, vN S, rfl, .inl (sq_of hl6), b, _, rfl, s6.1, ⟨by rw [vN_len]; omega, by rw [vN_len]; omega⟩, fun at_ H7 a0 a1 b7 d7 => ?_⟩
      obtain ⟨j, rfl⟩ := Int.eq_ofNat_of_zero_le a0
      have hj : j < S.length := by rw [vN_len] at a1; omega
      have s7 : Step b H H7 := s6.trans (.draw b7 d7)
      have hl7 : H7 l = some (.lst (vN S)) := (Step.draw (H := H6) b7 d7).at nbl hl6
      -- less = some[:at] + some[at + 1:]
      have ej : (j : Int) + 1 = ((j + 1 : Nat) : Int) := by omega
      show tSeq (tAsg (tOp rCat (tSl (rSlL K) (tVar 6) tNoPart (tPart (tVar 7))) (tSl (rSlL K) (tVar 6) (tPart (tOp (rI0 fun i j => V.int (i + j)) (tVar 7) (tC (V.int 1)))) tNoPart)) (gName 8)) (tIfS (tTest (tOp rNotB (tCl (spCutHolds K C) E0 (tCons (tVar 1) (tCons (tVar 3) (tCons (tVar 8) tNil)))) (tC (V.bl false)))) (tRet (tC (V.bl false))) tNext) _ [some (V.ref b.1), some (.ref x), some v, some (.ref a), some (.ref c), some (.int (first : Int)), some (.ref l), some (.int (j : Int)), o8, none] H7
      refine q_asgL (xs := vN (S.take j ++ S.drop (j + 1))) ?_ fun r H8 r0 e8 hr8 => ?_
      · have h9 := el_cat (el_sl (K := K) (te := tVar 6) (σ := [some (V.ref b.1), some (.ref x), some v, some (.ref a), some (.ref c), some (.int (first : Int)), some (.ref l), some (.int (j : Int)), o8, none]) (H := H7) (ev_var rfl) eo_none (eo_some (te := tVar 7) (ev_var rfl)) (sq_of hl7)) (el_sl (K := K) (te := tVar 6) (ev_var rfl) (eo_some (te := tOp (rI0 fun i j => .int (i + j)) (tVar 7) (tC (.int 1))) (ev_is (w := .int ((j + 1 : Nat) : Int)) (ev_op (ev_var rfl) ev_c rv_I0) (by rw [← ej]))) eo_none (sq_of hl7)) (by
          have b1 := cutV_length (vN S) none (some (j : Int))
          have b2 := cutV_length (vN S) (some ((j + 1 : Nat) : Int)) none
          have b3 : 1000 ≤ sizeLine := by decide
          rw [vN_len] at b1 b2
          omega)
        rw [cutV_take _ (by rw [vN_len]; omega), cutV_drop _ (by rw [vN_len]; omega), vN_take, vN_drop, vN_app] at h9
        exact h9
      · have s8 := pu s7 e8
        have hless : cutHolds ps al (S.take j ++ S.drop (j + 1)) = false := cut_less fL.good hfal fL.pw hS.symm m0 hj h1
        have ll : (S.take j ++ S.drop (j + 1)).length ≤ 30 := by
          rw [List.length_append, List.length_take, List.length_drop]
          omega
        -- if cut_holds(web, living, less) is not False
        exact s_when (b := false) (et_test (ev_op (ev_cl (z := .bl false) (ea_cons (ev_var rfl) (ea_cons (ev_var rfl) (ea_cons (ev_var rfl) ea_nil))) (fun H9 e9 Q q E => ⟨x, a, r, m, ps, al, _, rfl, hW (pu s8 e9), (hL (pu s8 e9)).liv, sq_of (e9 _ _ hr8), few, ll, hal, by rw [hless]; exact q⟩)) ev_c (z := .bl false) (rv_val fun H e Q q => ⟨false, false, rfl, rfl, q⟩))) (fun h => nomatch h) fun _ H9 e9 => ⟨_, _, _, _, rfl, pu s8 e9⟩
    · obtain ⟨o5, o6, o7, o8, rfl, s2⟩ := h
      exact k _ s2
end
end K15
end
section
set_option Elab.async false
set_option linter.all false
set_option maxRecDepth 100000
set_option maxHeartbeats 4000000
namespace K15
open PySem PySem.Spec PyProof.Rows L2 Lf Wm
open Evl
abbrev s_again : Stmt := topS 33
abbrev ns_again : List Str := ["_law_bag_here", "_law_web_here", "_law_near_here", "_law_handed", "_law_kept", "_law_some", "_law_reached_here", "_law_far", "_law_there", "_law_due", "_law_one"]
theorem sc_again : FnScope ns_again ["_law_bag_here", "_law_web_here", "_law_near_here", "_law_handed"] (defScope s_again) := ⟨rfl, rfl, rfl, by decide +kernel, rfl, by decide +kernel, by decide +kernel⟩
structure TxtY (mg : Str → Option Value) : Prop where
  n_len : mg "len" = none
  n_range : mg "range" = none
  n_list : mg "list" = none
/-- living ones of a web of m places -/
structure Lst (m : Nat) (al : List Nat) : Prop where
  few : al.length ≤ 30
  lt : ∀ x ∈ al, x < m
  root : 0 ∈ al
  pw : al.Pairwise (· < ·)
def spAgain (K : PySem.W.Frag) (C : Addr) : Sp := fun vs H Q _ => ∃ (b : Addr × Addr) (x hd : Addr) (v : V) (m : Nat) (ps : PS) (al : List Nat), vs = [.ref b.1, .ref x, v, .ref hd] ∧ Bag H b ∧ hd ≠ b.1 ∧ hd ≠ b.2 ∧ H hd = some (.lst (vN al)) ∧ Lst m al ∧ WebAt K C (M2 b hd H) x m ps ∧ Dp K (M2 b hd H) v (dNs (nearOf m ps)) ∧ ∀ H', Bag H' b → Ex (M2 b hd H) (M2 b hd H') → Q (.bl true) H'
section
variable {P : Program} {w : World} {K : PySem.W.Frag} {mg : Str → Option Value} {base : Heap} {C : Addr}
theorem el_distV {σ : L2.St} {H : Hp} {i j m : Nat} {z a : Addr} {rs : PS} {al : List Nat} (hi : σ[i]? = some (some (.ref z))) (hw : WebAt K C H z m rs) (hj : σ[j]? = some (some (.ref a))) (ha : SqL K H a (vN al)) (hlen : al.length ≤ 30) (hal : ∀ x ∈ al, x < m) :
    EvL (tMt C "distances" (spDist K C) E0 (tVar i) (tCons (tVar j) tNil)) σ H (farV m rs al) := by
  have hw' := hw
  obtain ⟨_, e1, e2, e3, hz, _, _⟩ := hw'
  exact el_mt (ev_var hi) hz (no_m (by decide +kernel)) (ea_cons (ev_var hj) ea_nil) fun H2 e4 Q q E => ⟨z, a, m, rs, al, rfl, hw.ex e4, ex_l e4 ha, by omega, hal, q⟩
theorem el_cutV {σ : L2.St} {H : Hp} {i j m : Nat} {z a : Addr} {rs : PS} {al : List Nat} (hi : σ[i]? = some (some (.ref z))) (hw : WebAt K C H z m rs) (hj : σ[j]? = some (some (.ref a))) (ha : SqL K H a (vN al)) (hlen : al.length ≤ 30) (hal : ∀ x ∈ al, x < m) :
    EvL (tMt C "cut" (spCut K C) E0 (tVar i) (tCons (tVar j) tNil)) σ H (vN (cutOf m rs al)) := by
  have hw' := hw
  obtain ⟨_, e1, e2, e3, hz, _, _⟩ := hw'
  exact el_mt (ev_var hi) hz (no_m (by decide +kernel)) (ea_cons (ev_var hj) ea_nil) fun H2 e4 Q q E => ⟨z, a, m, rs, al, rfl, hw.ex e4, ex_l e4 ha, by omega, hal, q⟩
theorem rep_nats {b : List Nat} (h : ∀ n ∈ b, n < 1000) (hl : b.length ≤ 1000) : Rep 60 1000000 (dN b) := (rep_dN h).mono (by decide) (by omega)
theorem c_again (D : Df K mg "_law_again" s_again ["_law_bag_here", "_law_web_here", "_law_near_here", "_law_handed"]) (T : TxtY mg) (c_living : Cal P w K mg base CX0 2 "_law_living" spLiving) (c_Web_distances : Met P w K mg base CX0 2 C "distances" (spDist K C)) (c_Web_cut : Met P w K mg base CX0 3 C "cut" (spCut K C)) (c_reached : Cal P w K mg base CX0 1 "_law_reached" (spReached K)) (c_fair : Cal P w K mg base CX0 2 "_law_fair" (spFair K)) (c_alike : Cal P w K mg base CX0 1 "_law_alike" (spAlike K)) : Cal P w K mg base CX0 6 "_law_again" (spAgain K C) := by
  refine D.cal sc_again (fun vs H Q E h => ?_) (fun f cdv A outer s H vs Q E g hr h => ?_)
  · obtain ⟨b, x, hd, v, m, ps, al, rfl, _⟩ := h
    rfl
  · obtain ⟨b, x, hd, v, m, ps, al0, rfl, hb, nq, nq2, hh, L0, fW, fN, k⟩ := h
    have hg : Good m ps := fW.1
    have m10 := hg.m10
    have m2 := hg.m2
    have m0 : 0 < m := by omega
    obtain ⟨nn, rows, rfl, g1, g2, _⟩ := near_at fN
    have lo : ∀ {H1 : Hp}, Ex (M2 b hd H1) H1 := fun {H1} => (M2.le b hd H1).trans (mask_le _ _)
    have h0n : H hd ≠ none := by rw [hh]; exact fun z => nomatch z
    refine ⟨_, (pss_cons (ps_set (i := 4) sc_again.nd rfl (Or.inl rfl) (pe_callTy (k_lst (K := K) rfl) (by rfl) T.n_list (by decide +kernel) (pa_cons (pv 3) pa_nil)))
    (pss_cons (ps_for PassesOwn.never rfl (k_list (K := K) rfl (pe_lst (pa_cons (ec c_living g hr (by decide) pass0 (by rfl) (pa_cons (pv 0) (pa_cons (pe_callB (k_len (K := K) rfl) (by rfl) T.n_len PySem.boot_len (pa_cons (pv 2) pa_nil)) pa_nil))) (pa_cons (pe_lst (pa_cons pe_int pa_nil)) (pa_cons (pv 4) pa_nil))))) (pg_name (i := 5) sc_again.nd rfl (Or.inl rfl)) (pss_cons (ps_expr (emt c_Web_distances g hr (by decide) pass0 (pv 1) (pa_cons (pv 3) pa_nil)))
        (pss_cons (ps_expr (emt c_Web_cut g hr (by decide) pass0 (pv 1) (pa_cons (pv 3) pa_nil)))
        (pss_cons (ps_asg (pv 5) (pg_sl (pv 3) po_none po_none))
        (pss_cons (ps_set (i := 6) sc_again.nd rfl (Or.inr rfl) (ec c_reached g hr (by decide) pass0 (by rfl) (pa_cons (pv 2) (pa_cons (pv 5) pa_nil))))
        (pss_cons (ps_set (i := 7) sc_again.nd rfl (Or.inr rfl) (emt c_Web_distances g hr (by decide) pass0 (pv 1) (pa_cons (pv 3) pa_nil)))
        (pss_cons (ps_setLc (i := 8) (own := [("_law_one", 10)]) (g := (gName 10)) (by rfl) sc_again.nd rfl rfl (sw_true rfl rfl rfl (by decide +kernel)) (pi_range1 (by rfl) T.n_range (pa_cons (pe_callB (k_len (K := K) rfl) (by rfl) T.n_len PySem.boot_len (pa_cons (pv 2) pa_nil)) pa_nil)) (blkOk_by (own := [("_law_one", 10)]) (N := ns_again) (sc := defScope s_again) (by decide +kernel)) (fun _ _ _ _ _ => (pg_name (i := 10) sc_again.nd rfl (Or.inl rfl))) (fun _ _ _ _ _ => pts_one (pt_cmpR op_notN (pe_ix (kix (K := K) (r := rIxL) ix_list rfl) (pv 7) (pv 10) (fun _ _ => rfl)) pe_non (nomark _))) (fun _ _ _ _ _ => (pv 10)))
        (pss_cons (ps_if (PW.pt (pw_or (pt_cmpR (kop (K := K) (r := rNeD) (op_neD hr.units) rfl) (pv 8) (pv 6) (nomark _)) (pw_or1 (pt_not (pt_val (ec c_fair g hr (by decide) pass0 (by rfl) (pa_cons (pv 2) (pa_cons (pv 5) (pa_cons (pv 7) pa_nil))))))))) (pss_one (ps_ret pe_bl)) pss_nil)
        (pss_cons (ps_setLc (i := 9) (own := [("_law_one", 10)]) (g := (gName 10)) (by rfl) sc_again.nd rfl rfl (sw_true rfl rfl rfl (by decide +kernel)) (k_list (K := K) rfl (pv 5)) (blkOk_by (own := [("_law_one", 10)]) (N := ns_again) (sc := defScope s_again) (by decide +kernel)) (fun _ _ _ _ _ => (pg_name (i := 10) sc_again.nd rfl (Or.inl rfl))) (fun _ _ _ _ _ => pts_one (pt_cmpR (kop (K := K) (r := fun K => rIn K true) op_notIn_seq rfl) (pv 10) (pv 6) rfl)) (fun _ _ _ _ _ => (pv 10)))
        (pss_one (ps_if (PW.pt (pw_or (pt_not (pt_val (ec c_alike g hr (by decide) pass0 (by rfl) (pa_cons (emt c_Web_cut g hr (by decide) pass0 (pv 1) (pa_cons (pv 3) pa_nil)) (pa_cons (pv 9) pa_nil))))) (pw_or1 (pt_cmpR (kop (K := K) (r := rNeD) (op_neD hr.units) rfl) (pv 3) (pv 5) (nomark _))))) (pss_one (ps_ret pe_bl)) pss_nil)))))))))))
    (pss_one (ps_ret pe_bl)))), ?_⟩
    -- kept = list(handed)
    refine q_asgL (el_listL (ev_var rfl) (sq_of hh)) fun kp H1 kp0 e1 hk => ?_
    have s1 : Step b H H1 := .pure hb e1
    -- [living(bag, len(near)), [0], kept]
    refine ⟨_, rfl, _, rfl, nn, rows, rfl, .inl (ex_l e1 (ex_l lo g1)), b, rows.length, rfl, s1.1, by omega, by omega, fun l1 al1 H2 s2 l10 hl1 pw1 lt1 len1 => ?_⟩
    rw [g2] at lt1
    have s12 := s1.trans s2
    refine ⟨by show 1 ≤ sizeLine; decide, fun l2 l20 => ⟨_, rfl, by show 3 ≤ sizeLine; decide, fun t t0 => ?_⟩⟩
    have e23 : Ex H2 (upd H2 l2 (.lst [V.int 0])) := Ex.new l20
    have e34 : Ex (upd H2 l2 (.lst [V.int 0])) (upd (upd H2 l2 (.lst [V.int 0])) t (.lst [.ref l1, .ref l2, .ref kp])) := Ex.new t0
    have hl2 : (upd H2 l2 (.lst [V.int 0])) l2 = some (.lst (vN [0])) := upd_same
    have ht : (upd (upd H2 l2 (.lst [V.int 0])) t (.lst [.ref l1, .ref l2, .ref kp])) t = some (.lst [.ref l1, .ref l2, .ref kp]) := upd_same
    generalize upd (upd H2 l2 (.lst [V.int 0])) t (.lst [.ref l1, .ref l2, .ref kp]) = G at *
    have e24 := e23.trans e34
    have sG : Step b H G := s12.trans (.pure s12.1 e24)
    have kpb : kp ≠ b.1 := hb.ne kp0
    have l1b : l1 ≠ b.1 := s1.1.ne l10
    have l2b : l2 ≠ b.1 := s12.1.ne l20
    have tb : t ≠ b.1 := (s12.trans (.pure s12.1 e23)).1.ne t0
    have ne : ∀ {a : Addr} {H' : Hp}, Step b H H' → H' a = none → a ≠ hd := fun s ha e => by
      rw [e, s.at nq hh] at ha
      cases ha
    have kph : kp ≠ hd := fun e => h0n (e ▸ kp0)
    have l1h : l1 ≠ hd := ne s1 l10
    have l2h : l2 ≠ hd := ne s12 l20
    have th : t ≠ hd := ne (s12.trans (.pure s12.1 e23)) t0
    have fk : M2 b hd G kp = some (.lst (vN al0)) := by rw [M2.at kpb kph]; exact e24 _ _ (s2.at kpb hk)
    have f1 : M2 b hd G l1 = some (.lst (vN (0 :: al1))) := by rw [M2.at l1b l1h]; exact e24 _ _ hl1
    have f2 : M2 b hd G l2 = some (.lst (vN [0])) := by rw [M2.at l2b l2h]; exact e34 _ _ hl2
    have ft : M2 b hd G t = some (.lst [.ref l1, .ref l2, .ref kp]) := by rw [M2.at tb th]; exact ht
    have gW : WebAt K C (M2 b hd G) x m ps := fW.ex (M2.step sG)
    have gN : Dp K (M2 b hd G) (.ref nn) (dNs (nearOf m ps)) := dp_ex (M2.step sG) _ _ fN
    have items : ∀ (i : Nat) y, [V.ref l1, V.ref l2, V.ref kp][i]? = some y → ∃ a S, y = .ref a ∧ M2 b hd G a = some (.lst (vN S)) ∧ Lst m S ∧ a ≠ hd := by
      intro i y hy
      match i, hy with
      | 0, hy => cases hy; exact ⟨l1, 0 :: al1, rfl, f1, ⟨by rw [List.length_cons]; omega, lt1, List.mem_cons_self, pw1⟩, l1h⟩
      | 1, hy => cases hy; exact ⟨l2, [0], rfl, f2, ⟨by show 1 ≤ 30; decide, fun z hz => by rw [List.mem_singleton.mp hz]; exact m0, List.mem_singleton.mpr rfl, List.pairwise_singleton ..⟩, l2h⟩
      | 2, hy => cases hy; exact ⟨kp, al0, rfl, fk, L0, kph⟩
      | n + 3, hy => simp at hy
    -- each of them
    refine ⟨t, rfl, ⟨_, sq_of ht⟩, for_list (xs := [V.ref l1, V.ref l2, V.ref kp]) (fun i σ' H' => ∃ o5 o6 o7 o8 o9 cur, σ' = [some (.ref b.1), some (.ref x), some (.ref nn), some (.ref hd), some (.ref kp), o5, o6, o7, o8, o9, none] ∧ Bag H' b ∧ Ex (M2 b hd G) (M2 b hd H') ∧ H' hd = some (.lst (vN cur)) ∧ cur.length ≤ 30 ∧ ∀ z ∈ cur, z < m) ⟨none, none, none, none, none, al0, rfl, sG.1, Ex.refl _, sG.at nq hh, L0.few, L0.lt⟩ (fun i σ' H' _ h => ?_) (fun i y σ' H' hy h => ?_) (fun σ' H' h => ?_)⟩
    · obtain ⟨_, _, _, _, _, _, _, _, u, _⟩ := h
      exact sq_of (lo _ _ (u _ _ ft))
    · obtain ⟨o5, o6, o7, o8, o9, cur, rfl, bg, up, hc, lcur, hcur⟩ := h
      obtain ⟨a, S, rfl, fa, LS, nah⟩ := items i y hy
      have hW : WebAt K C H' x m ps := (gW.ex up).ex lo
      -- web.distances(handed); web.cut(handed)
      refine q_dropL (el_distV rfl hW rfl (sq_of hc) lcur hcur) fun H3 e3 => ?_
      refine q_dropL (el_cutV rfl (hW.ex e3) rfl (sq_of (e3 _ _ hc)) lcur hcur) fun H4 e4 => ?_
      have e34 := e3.trans e4
      have s4 : Step b H' H4 := .pure bg e34
      have up4 := up.trans (M2.step (q := hd) s4)
      have ha4 : H4 a = some (.lst (vN S)) := lo _ _ (up4 _ _ fa)
      have hc4 := e34 _ _ hc
      -- handed[:] = some
      refine ⟨_, rfl, _, rfl, hd, a, vN cur, vN S, 0, (vN cur).length, rfl, rfl, nah.symm, hc4, ha4, whole_bounds _, Nat.zero_le _, Nat.le_refl _, ?_, ?_⟩
      · have b1 : 1000 ≤ sizeLine := by decide
        have := LS.few
        rw [vN_len, vN_len]
        omega
      rw [all_cut]
      have em : M2 b hd (upd H4 hd (.lst (vN S))) = M2 b hd H4 := M2.put
      have bg5 : Bag (upd H4 hd (.lst (vN S))) b := Bag_upd s4.1 nq nq2
      have hh5 : (upd H4 hd (.lst (vN S))) hd = some (.lst (vN S)) := upd_same
      have up5 : Ex (M2 b hd G) (M2 b hd (upd H4 hd (.lst (vN S)))) := by rw [em]; exact up4
      generalize upd H4 hd (.lst (vN S)) = H5 at *
      have hW5 : WebAt K C H5 x m ps := (gW.ex up5).ex lo
      have hL5 : Liv K H5 (.ref nn) a m ps S := ⟨dp_ex lo _ _ (dp_ex up5 _ _ gN), hg, sq_of (lo _ _ (up5 _ _ fa)), LS.few, LS.lt, LS.root, LS.pw⟩
      obtain ⟨n2, rows2, en2, h1, h2, _⟩ := near_at hL5.near
      cases en2
      have hal := LS.lt
      have lS := LS.few
      have lr : (reached m ps S).length ≤ S.length := List.length_filter_le ..
      -- reached = reached(near, some)
      refine q_asgL (xs := vN (reached m ps S)) (el_cl (ea_cons (ev_var rfl) (ea_cons (ev_var rfl) ea_nil)) (fun H6 e6 Q q E => ⟨_, a, m, ps, S, rfl, hL5.ex e6, q⟩)) fun r H6 r0 e6 hr6 => ?_
      -- far = web.distances(handed)
      refine q_asgL (el_distV rfl (hW5.ex e6) rfl (sq_of (e6 _ _ hh5)) LS.few LS.lt) fun fr H7 fr0 e7 hf7 => ?_
      have e57 := e6.trans e7
      -- there
      refine q_asgL (xs := vN (reached m ps S)) ?_ fun th2 H8 th0 e8 hth => ?_
      · have lc := el_lcR1 (ta := tCons (tCB (rLen K) (tCons (tVar 2) tNil)) tNil) (σ := [some (V.ref b.1), some (.ref x), some (.ref nn), some (.ref hd), some (.ref kp), some (.ref a), some (.ref r), some (.ref fr), o8, o9, none]) (H := H7) (j := 10) (vs := [10]) (n := (m : Int)) (t := tTest (tOp (fun x y H Q => y = .non ∧ Q (.bl (!decide (x = .non))) H) (tOp (rIxL K) (tVar 7) (tVar 10)) (tC .non))) (te := tVar 10) (fun z => !(far m ps S z).isNone) (fun z => V.int (z : Int)) (ea_cons (ev_is (ev_lenL (ev_var rfl) (ex_l e57 h1)) (by rw [h2])) ea_nil) ⟨by omega, by omega⟩ (fun _ => rfl)
          (fun z H8 e8 hz => et_test (ev_is (ev_op (ev_op (ev_var rfl) (ev_var rfl) (rv_ixL (sq_of (e8 _ _ hf7)) (atI_nat (far_get (show z < m by omega))))) ev_c (z := .bl (!decide (oV (far m ps S z) = .non))) (rv_val fun H e Q q => ⟨rfl, q⟩)) (by rw [oV_non])))
          (fun z H8 e8 hz _ => ev_var rfl)
        have ge : given (m : Int).toNat (fun z => !(far m ps S z).isNone) (fun z => V.int (z : Int)) = vN (reached m ps S) := by
          rw [Int.toNat_natCast, ← there_eq m0 hal LS.root LS.pw]
          rfl
        rw [ge] at lc
        exact lc
      have e58 := e57.trans e8
      -- if there != reached or not fair(near, some, far)
      refine q_when (b := false || !true) (et_or (et_test (ev_op (ev_var rfl) (ev_var rfl) (rv_neD (d := dN (reached m ps S)) (.lst (sq_of hth) (vN_dps _)) (.lst (sq_of (e8 _ _ (e7 _ _ hr6))) (vN_dps _)) (rep_nats (fun n hn => by have := hal n (List.mem_filter.mp hn).1; omega) (by omega)) (by decide)))) (fun _ => et_not (et_B (ev_cl (ea_cons (ev_var rfl) (ea_cons (ev_var rfl) (ea_cons (ev_var rfl) ea_nil))) (fun H9 e9 Q q E => ⟨_, a, fr, m, ps, S, rfl, hL5.ex (e58.trans e9), sq_of (e9 _ _ (e8 _ _ hf7)), q⟩))))) (fun h => nomatch h) fun _ H9 e9 => ?_
      have e59 := e58.trans e9
      -- due
      refine q_asgL (xs := vN (cutOf m ps S)) ?_ fun du H10 du0 e10 hdu => ?_
      · have lc := el_lcL (K := K) (σ := [some (V.ref b.1), some (.ref x), some (.ref nn), some (.ref hd), some (.ref kp), some (.ref a), some (.ref r), some (.ref fr), some (.ref th2), o9, none]) (H := H9) (tl := tVar 5) (j := 10) (vs := [10]) (t := tTest (tOp (rIn K true) (tVar 10) (tVar 6))) (te := tVar 10) (fun z => (fun q => !decide (q ∈ reached m ps S)) (S.getD z 0)) (fun z => V.int ((S.getD z 0 : Nat) : Int)) (ev_var rfl) (ex_l e59 hL5.liv) (by rw [vN_len]; omega) (fun _ => rfl)
          (fun z y H10 e10 hz => by
            obtain ⟨rfl, _⟩ := getD_nat hz
            exact et_test (ev_is (ev_op (ev_var rfl) (ev_var rfl) (rv_niL (sq_of (e10 _ _ (e9 _ _ (e8 _ _ (e7 _ _ hr6))))) rfl (vN_flat _))) (by rw [inV_nat])))
          (fun z y H10 e10 hz _ => by
            obtain ⟨rfl, _⟩ := getD_nat hz
            exact ev_var rfl)
        rw [vN_len, given_filter S (fun q => !decide (q ∈ reached m ps S)), due_eq] at lc
        exact lc
      have e510 := e59.trans e10
      have lcut : (cutOf m ps S).length ≤ S.length := List.length_filter_le ..
      -- if not alike(web.cut(handed), due) or handed != some
      refine s_when (b := !true || false) (et_or (et_not (et_B (ev_clF (ef_consL (el_cutV rfl (hW5.ex e510) rfl (sq_of (e510 _ _ hh5)) LS.few LS.lt) (ef_cons (ev_var rfl) ef_nil)) fun vs H11 e11 p H12 e12 Q q E => ?_))) (fun _ => et_test (ev_op (ev_var rfl) (ev_var rfl) (rv_neD (d := dN S) (.lst (sq_of (e510 _ _ hh5)) (vN_dps _)) (.lst (ex_l e510 hL5.liv) (vN_dps _)) (rep_nats (fun n hn => by have := hal n hn; omega) (by omega)) (by decide))))) (fun h => nomatch h) fun _ H11 e11 => ?_
      · obtain ⟨u, us, rfl, _, hu, us, rfl, rfl⟩ := p
        exact ⟨.ref u, .ref du, dN (cutOf m ps S), rfl, .lst (sq_of (e12 _ _ hu)) (vN_dps _), .lst (sq_of (e12 _ _ (e11 _ _ hdu))) (vN_dps _), rep_nats (fun n hn => by have := hal n (List.mem_filter.mp hn).1; omega) (by omega), q⟩
      · have e511 := e510.trans e11
        exact ⟨_, _, _, _, _, S, rfl, bg5.ex e511, up5.trans (M2.step (q := hd) (.pure bg5 e511)), e511 _ _ hh5, LS.few, LS.lt⟩
    · obtain ⟨o5, o6, o7, o8, o9, cur, rfl, bg, up, _⟩ := h
      exact k _ bg ((M2.step sG).trans up)
end
end K15
end
section
set_option Elab.async false
set_option linter.all false
set_option maxRecDepth 100000
set_option maxHeartbeats 4000000
namespace K15
open PySem PySem.Spec PyProof.Rows L2 Lf Wm
open Evl
abbrev s_law : Stmt := topS 34
abbrev ns_law : List Str := ["_law_script", "_law_bag_here", "_law_many", "_law_pairs", "_law_near_here", "_law_web_here", "_law_fars", "_law_living_here", "_law_k", "_law_handed", "_law_far", "_law_reached_here", "_law_place", "_law_cut", "_law_due", "_law_one"]
theorem sc_law : FnScope ns_law ["_law_script"] (defScope s_law) := ⟨rfl, rfl, rfl, by decide +kernel, rfl, by decide +kernel, by decide +kernel⟩
def spLaw (K : PySem.W.Frag) : Sp := fun vs H Q _ => ∃ (a : Addr) (ns : List Int), vs = [.ref a] ∧ SqL K H a (ns.map V.int) ∧ ns.length ≤ 63 ∧ ∀ H', Q (.bl true) H'
theorem q_web {K : PySem.W.Frag} {C : Addr} {σ : L2.St} {H : Hp} {te : TE} {i j m : Nat} {ws : List V} {qs : PS} {D : Ends} {tz : TS} (hm : σ[i]? = some (some (.int (m : Int)))) (hl : EvL te σ H ws) (hp : PairsIn H ws qs) (hg : Good m qs) (k : ∀ x H1, Ex H H1 → WebNew C H H1 x m qs → tz D (σ.set j (some (.ref x))) H1) :
    tSeq (tAsg (tMk C (spWebInit K C) E0 (tCons (tVar i) (tCons te tNil))) (gName j)) tz D σ H :=
  ⟨_, hm, hl H (Ex.refl _) _ fun l H2 l0 e2 hl2 x dx nx ndx ne => by
    have nx2 : (upd H2 dx (.own x)) x = none := by rw [upd_ne ne.symm]; exact nx
    exact ⟨H2, x, dx, m, .ref l, qs, rfl, (hp.ex e2).dp (sq_of hl2), hg, (Ex.new ndx).trans (Ex.new nx2), nx, upd_same, fun H4 e4 hW => ⟨rfl, k x H4 (e2.trans e4) (hW.base e2)⟩⟩⟩
structure TxtZ (mg : Str → Option Value) : Prop where
  n_len : mg "len" = none
  n_range : mg "range" = none
  n_list : mg "list" = none
section
variable {P : Program} {w : World} {K : PySem.W.Frag} {mg : Str → Option Value} {base : Heap} {C : Addr}
theorem f_law {f : Addr} {fd : FuncData} (F : L2.Fun K "law" "law" s_law f fd) (T : TxtZ mg) (c_bag : Cal P w K mg base CX0 1 "_law_bag" (spBag K)) (c_web : Cal P w K mg base CX0 2 "_law_web" spLWeb) (c_near : Cal P w K mg base CX0 1 "_law_near" (spNear K)) (c_living : Cal P w K mg base CX0 2 "_law_living" spLiving) (c_Web : Mak P w K mg base CX0 5 "Web" C (spWebInit K C))
    (c_take : Cal P w K mg base CX0 1 "_law_take" spTake) (c_Web_distances : Met P w K mg base CX0 2 C "distances" (spDist K C)) (c_Web_cut : Met P w K mg base CX0 3 C "cut" (spCut K C)) (c_reached : Cal P w K mg base CX0 1 "_law_reached" (spReached K)) (c_fair : Cal P w K mg base CX0 2 "_law_fair" (spFair K)) (c_road : Cal P w K mg base CX0 1 "_law_road" (spRoad K))
    (c_road_holds : Cal P w K mg base CX0 5 "road_holds" (spRoadHolds K C)) (c_alike : Cal P w K mg base CX0 1 "_law_alike" (spAlike K)) (c_cuts_right : Cal P w K mg base CX0 6 "_law_cuts_right" (spCutsRight K C)) (c_again : Cal P w K mg base CX0 6 "_law_again" (spAgain K C)) : Fn P w K mg base CX0 8 f fd ["_law_script"] (spLaw K) := by
  refine fn0G F sc_law (fun vs H Q E h => ?_) (fun cdv A outer s H vs Q E g hr h => ?_)
  · obtain ⟨a, ns, rfl, _⟩ := h
    rfl
  · obtain ⟨sa, ns, rfl, hx, hl, k⟩ := h
    refine ⟨_, (pss_cons (ps_set (i := 1) sc_law.nd rfl (Or.inr rfl) (ec c_bag g hr (by decide) pass0 (by rfl) (pa_cons (pv 0) pa_nil)))
    (pss_cons (ps_asg (ec c_web g hr (by decide) pass0 (by rfl) (pa_cons (pv 1) (pa_cons pe_int pa_nil))) (k_gtup (K := K) rfl (by rfl) (pgs_cons (pg_name (i := 2) sc_law.nd rfl (Or.inl rfl)) (pgs_cons (pg_name (i := 3) sc_law.nd rfl (Or.inl rfl)) pgs_nil))))
    (pss_cons (ps_set (i := 4) sc_law.nd rfl (Or.inl rfl) (ec c_near g hr (by decide) pass0 (by rfl) (pa_cons (pv 2) (pa_cons (pv 3) pa_nil))))
    (pss_cons (ps_set (i := 5) sc_law.nd rfl (Or.inl rfl) (emk c_Web g hr (by decide) pass0 (by rfl) (pa_cons (pv 2) (pa_cons (pe_callTy (k_lst (K := K) rfl) (by rfl) T.n_list (by decide +kernel) (pa_cons (pv 3) pa_nil)) pa_nil))))
    (pss_cons (ps_set (i := 6) sc_law.nd rfl (Or.inr rfl) (pe_lst pa_nil))
    (pss_cons (ps_set (i := 7) sc_law.nd rfl (Or.inl rfl) (ec c_living g hr (by decide) pass0 (by rfl) (pa_cons (pv 1) (pa_cons (pv 2) pa_nil))))
    (pss_cons (ps_for PassesOwn.never rfl (pi_range1 (by rfl) T.n_range (pa_cons pe_int pa_nil)) (pg_name (i := 8) sc_law.nd rfl (Or.inl rfl)) (pss_cons (ps_set (i := 9) sc_law.nd rfl (Or.inl rfl) (pe_callTy (k_lst (K := K) rfl) (by rfl) T.n_list (by decide +kernel) (pa_cons (pv 7) pa_nil)))
        (pss_cons (ps_set (i := 10) sc_law.nd rfl (Or.inr rfl) (emt c_Web_distances g hr (by decide) pass0 (pv 5) (pa_cons (pv 9) pa_nil)))
        (pss_cons (ps_expr (k_bm (K := K) rfl PySem.F.plainAttrs_list PySem.F.slot_list_append PySem.F.type_list_append mt_append (pv 10) (pa_cons pe_int pa_nil)))
        (pss_cons (ps_if (PW.pt (pw_or (pt_cmpR (kop (K := K) (r := rNeD) (op_neD hr.units) rfl) (emt c_Web_distances g hr (by decide) pass0 (pv 5) (pa_cons (pv 9) pa_nil)) (pe_slice (ksl (K := K) (r := rSlL) sl_list rfl) (pv 10) po_none (po_some (pe_un un_neg pe_int))) (nomark _)) (pw_or1 (pt_cmpR (kop (K := K) (r := rNeD) (op_neD hr.units) rfl) (pv 9) (pv 7) (nomark _))))) (pss_one (ps_ret pe_bl)) pss_nil)
        (pss_cons (ps_expr (k_bm0 (K := K) rfl PySem.F.plainAttrs_list PySem.F.slot_list_pop PySem.F.type_list_pop mt_pop (pv 10)))
        (pss_cons (ps_set (i := 11) sc_law.nd rfl (Or.inr rfl) (ec c_reached g hr (by decide) pass0 (by rfl) (pa_cons (pv 4) (pa_cons (pv 7) pa_nil))))
        (pss_cons (ps_if (PW.pt (pw_or (pt_cmpR op_ne (pe_callB (k_len (K := K) rfl) (by rfl) T.n_len PySem.boot_len (pa_cons (pv 10) pa_nil)) (pv 2) (nomark _)) (pw_or1 (pt_cmpR (kop (K := K) (r := rNeD) (op_neD hr.units) rfl) (pe_lc (own := [("_law_one", 15)]) (g := (gName 15)) (by rfl) sc_law.nd (pi_range1 (by rfl) T.n_range (pa_cons (pv 2) pa_nil)) (blkOk_by (own := [("_law_one", 15)]) (N := ns_law) (sc := defScope s_law) (by decide +kernel)) (fun _ _ _ _ _ => (pg_name (i := 15) sc_law.nd rfl (Or.inl rfl))) (fun _ _ _ _ _ => pts_one (pt_cmpR op_notN (pe_ix (kix (K := K) (r := rIxL) ix_list rfl) (pv 10) (pv 15) (fun _ _ => rfl)) pe_non (nomark _))) (fun _ _ _ _ _ => (pv 15))) (pv 11) (nomark _))))) (pss_one (ps_ret pe_bl)) pss_nil)
        (pss_cons (ps_if (pt_not (pt_val (ec c_fair g hr (by decide) pass0 (by rfl) (pa_cons (pv 4) (pa_cons (pv 7) (pa_cons (pv 10) pa_nil)))))) (pss_one (ps_ret pe_bl)) pss_nil)
        (pss_cons (ps_for PassesOwn.never rfl (k_list (K := K) rfl (pv 11)) (pg_name (i := 12) sc_law.nd rfl (Or.inl rfl)) (pss_one (ps_if (pt_cmpR op_notBl (ec c_road_holds g hr (by decide) pass0 (by rfl) (pa_cons (pv 5) (pa_cons (pv 7) (pa_cons (pv 12) (pa_cons (ec c_road g hr (by decide) pass0 (by rfl) (pa_cons (pv 4) (pa_cons (pv 10) (pa_cons (pv 12) pa_nil)))) pa_nil))))) pe_bl (nomark _)) (pss_one (ps_ret pe_bl)) pss_nil)))
        (pss_cons (ps_set (i := 13) sc_law.nd rfl (Or.inl rfl) (emt c_Web_cut g hr (by decide) pass0 (pv 5) (pa_cons (pv 9) pa_nil)))
        (pss_cons (ps_setLc (i := 14) (own := [("_law_one", 15)]) (g := (gName 15)) (by rfl) sc_law.nd rfl rfl (sw_true rfl rfl rfl (by decide +kernel)) (k_list (K := K) rfl (pv 7)) (blkOk_by (own := [("_law_one", 15)]) (N := ns_law) (sc := defScope s_law) (by decide +kernel)) (fun _ _ _ _ _ => (pg_name (i := 15) sc_law.nd rfl (Or.inl rfl))) (fun _ _ _ _ _ => pts_one (pt_cmpR (kop (K := K) (r := fun K => rIn K true) op_notIn_seq rfl) (pv 15) (pv 11) rfl)) (fun _ _ _ _ _ => (pv 15)))
        (pss_cons (ps_if (PW.pt (pw_or (pt_not (pt_val (ec c_alike g hr (by decide) pass0 (by rfl) (pa_cons (pv 13) (pa_cons (pv 14) pa_nil))))) (pw_or1 (pt_cmpR (kop (K := K) (r := rNeD) (op_neD hr.units) rfl) (pv 9) (pv 7) (nomark _))))) (pss_one (ps_ret pe_bl)) pss_nil)
        (pss_cons (ps_expr (k_bm (K := K) rfl PySem.F.plainAttrs_list PySem.F.slot_list_append PySem.F.type_list_append mt_append (emt c_Web_cut g hr (by decide) pass0 (pv 5) (pa_cons (pv 9) pa_nil)) (pa_cons pe_int pa_nil)))
        (pss_cons (ps_if (pt_not (pt_val (ec c_cuts_right g hr (by decide) pass0 (by rfl) (pa_cons (pv 1) (pa_cons (pv 5) (pa_cons (pv 4) (pa_cons (pv 7) (pa_cons (pv 13) pa_nil)))))))) (pss_one (ps_ret pe_bl)) pss_nil)
        (pss_cons (ps_expr (k_bm (K := K) rfl PySem.F.plainAttrs_list PySem.F.slot_list_append PySem.F.type_list_append mt_append (pv 6) (pa_cons (pe_lc (own := [("_law_one", 15)]) (g := (gName 15)) (tt := tYes) (by rfl) sc_law.nd (k_list (K := K) rfl (pv 10)) (blkOk_by (own := [("_law_one", 15)]) (N := ns_law) (sc := defScope s_law) (by decide +kernel)) (fun _ _ _ _ _ => (pg_name (i := 15) sc_law.nd rfl (Or.inl rfl))) (fun _ _ _ _ _ => pts_nil) (fun _ _ _ _ _ => (pe_ifExp (pt_cmpR op_isN (pv 15) pe_non (nomark _)) pe_int (pv 15)))) pa_nil)))
        (pss_one (ps_set (i := 7) sc_law.nd rfl (Or.inl rfl) (pe_op op_cat (pe_lst (pa_cons pe_int pa_nil)) (pe_lc (own := [("_law_place", 12)]) (g := (gName 12)) (by rfl) sc_law.nd (k_list (K := K) rfl (pe_slice (ksl (K := K) (r := rSlL) sl_list rfl) (pv 7) (po_some pe_int) po_none)) (blkOk_by (own := [("_law_place", 12)]) (N := ns_law) (sc := defScope s_law) (by decide +kernel)) (fun _ _ _ _ _ => (pg_name (i := 12) sc_law.nd rfl (Or.inl rfl))) (fun _ _ _ _ _ => pts_one (pt_cmpR op_gt (ec c_take g hr (by decide) pass0 (by rfl) (pa_cons (pv 1) (pa_cons pe_int pa_nil))) pe_int (nomark _))) (fun _ _ _ _ _ => (pv 12))))))))))))))))))))))
    (pss_cons (ps_if (pt_not (pt_val (ec c_again g hr (by decide) pass0 (by rfl) (pa_cons (pv 1) (pa_cons (pv 5) (pa_cons (pv 4) (pa_cons (ec c_living g hr (by decide) pass0 (by rfl) (pa_cons (pv 1) (pa_cons (pv 2) pa_nil))) pa_nil))))))) (pss_one (ps_ret pe_bl)) pss_nil)
    (pss_one (ps_ret (pe_cmpR (kop (K := K) (r := rEqD) (op_eqD hr.units) rfl) (pe_lc (own := [("_law_k", 8)]) (g := (gName 8)) (by rfl) sc_law.nd (pi_range1 (by rfl) T.n_range (pa_cons (pv 2) pa_nil)) (blkOk_by (own := [("_law_k", 8)]) (N := ns_law) (sc := defScope s_law) (by decide +kernel)) (fun _ _ _ _ _ => (pg_name (i := 8) sc_law.nd rfl (Or.inl rfl))) (fun _ _ _ _ _ => pts_one (PW.pt (pw_or (pt_cmpR op_gt (pe_ix (kix (K := K) (r := rIxL) ix_list rfl) (pe_ix (kix (K := K) (r := rIxL) ix_list rfl) (pv 6) pe_int (fun _ _ => rfl)) (pv 8) (fun _ _ => rfl)) (pe_ix (kix (K := K) (r := rIxL) ix_list rfl) (pe_ix (kix (K := K) (r := rIxL) ix_list rfl) (pv 6) pe_int (fun _ _ => rfl)) (pv 8) (fun _ _ => rfl)) (nomark _)) (pw_or1 (pt_cmpR op_gt (pe_ix (kix (K := K) (r := rIxL) ix_list rfl) (pe_ix (kix (K := K) (r := rIxL) ix_list rfl) (pv 6) pe_int (fun _ _ => rfl)) (pv 8) (fun _ _ => rfl)) (pe_ix (kix (K := K) (r := rIxL) ix_list rfl) (pe_ix (kix (K := K) (r := rIxL) ix_list rfl) (pv 6) pe_int (fun _ _ => rfl)) (pv 8) (fun _ _ => rfl)) (nomark _)))))) (fun _ _ _ _ _ => (pv 8))) (pe_lst pa_nil) (nomark _)))))))))))), ?_⟩
    -- bag
    refine ⟨_, rfl, sa, ns, rfl, hx, hl, fun b H1 e1 b0 hb1 => ?_⟩
    -- many, pairs = web(bag, 10)
    refine ⟨_, rfl, b, rfl, hb1, fun t a m ps ws H2 hg s2 t0 ht a0 ha hp => ⟨t, _, rfl, st_of ht, rfl, _, _, rfl, _, _, rfl, rfl, ?_⟩⟩
    have m10 := hg.m10
    have m2 := hg.m2
    have m0 : 0 < m := by omega
    have few := hg.few
    have hws : ws.length = ps.length := hp.1
    have nba : a ≠ b.1 := hb1.ne a0
    -- near
    refine ⟨_, rfl, _, rfl, .ref a, m, ps, rfl, hp.dp (sq_of ha), hg, fun n nw H3 e3 n0 hn rn fr => ?_⟩
    have s3 : Step b H2 H3 := .pure s2.1 e3
    -- web
    refine q_web rfl (el_listL (ev_var rfl) (sq_of (e3 _ _ ha))) (hp.ex e3) hg fun x H4 e4 hWn => ?_
    have s4 : Step b H3 H4 := .pure s3.1 e4
    have fW : WebAt K C (mask b.1 H4) x m ps := hWn.mask s3.1 s4.1
    have fN : Dp K (mask b.1 H4) (.ref n) (dNs (nearOf m ps)) := .lst (sq_of (by rw [mask_at (s2.1.ne n0)]; exact e4 _ _ hn)) ((rn.ex e4).mask (bag_none s2.1) fr).dps
    -- fars = []
    refine q_asgL (el_lst ea_nil (Nat.zero_le _)) fun fs H5 fs0 e5 hfs => ?_
    have s5 : Step b H4 H5 := .pure s4.1 e5
    have nq : fs ≠ b.1 := s4.1.ne fs0
    have nq2 : fs ≠ b.2 := s4.1.ne2 fs0
    have up5 := M2.up (q := fs) s5 fs0
    have fW5 : WebAt K C (M2 b fs H5) x m ps := fW.ex up5
    have fN5 := dp_ex up5 _ _ fN
    -- living
    refine ⟨_, rfl, _, rfl, b, m, rfl, s5.1, m2, m10, fun lv al0 H6 s6 lv0 hlv pw0 lt0 len0 => ?_⟩
    have lo : ∀ {H1 : Hp}, Ex (M2 b fs H1) H1 := fun {H1} => (M2.le b fs H1).trans (mask_le _ _)
    have lm : ∀ {H1 : Hp}, Ex (M2 b fs H1) (mask b.1 H1) := fun {H1} => M2.le b fs H1
    have hfs6 := s6.at nq hfs
    have lvb : lv ≠ b.1 := s5.1.ne lv0
    have lvf : lv ≠ fs := fun e => by rw [e, hfs] at lv0; cases lv0
    have fW6 := fW5.ex (M2.step s6)
    have fN6 := dp_ex (M2.step s6) _ _ fN5
    refine q_forR1 (n := 3) (ea_cons ev_c ea_nil) ⟨by decide, by decide⟩ (fun i σ' H' => ∃ (o8 o9 o10 o11 o12 o13 o14 : Option V) (lv : Addr) (tl : List Nat) (us : List V) (als : Nat → List Nat), σ' = [some (.ref sa), some (.ref b.1), some (.int (m : Int)), some (.ref a), some (.ref n), some (.ref x), some (.ref fs), some (.ref lv), o8, o9, o10, o11, o12, o13, o14, none] ∧ Bag H' b ∧ Ex (M2 b fs H6) (M2 b fs H') ∧ H' fs = some (.lst us) ∧ M2 b fs H' lv = some (.lst (vN (0 :: tl))) ∧ Lst m (0 :: tl) ∧ us.length = i ∧ (∀ j, j < i → ∃ u, us[j]? = some (.ref u) ∧ M2 b fs H' u = some (.lst (vN (FV m ps (als j))))) ∧ (∀ j, j < i → (∀ z ∈ als j, z < m) ∧ ∀ z ∈ 0 :: tl, z ∈ als j) ∧ ∀ j l, j ≤ l → l < i → ∀ z ∈ als l, z ∈ als j)
      (fun H7 e7 => ⟨none, none, none, none, none, none, none, lv, al0, [], fun _ => [], rfl, s6.1.ex e7, M2.step (.pure s6.1 e7), e7 _ _ hfs6, by rw [M2.at lvb lvf]; exact e7 _ _ hlv, ⟨by rw [List.length_cons]; omega, lt0, List.mem_cons_self, pw0⟩, rfl, fun j h => absurd h (Nat.not_lt_zero _), fun j h => absurd h (Nat.not_lt_zero _), fun j l _ h => absurd h (Nat.not_lt_zero _)⟩) ?_ ?_
    · rintro i σ' H' hi ⟨o8, o9, o10, o11, o12, o13, o14, lv, tl, us, als, rfl, bg, up, hfs, flv, LS, hlen, hist, sub, mono⟩
      generalize hS : 0 :: tl = S at *
      have lS := LS.few
      have hal := LS.lt
      have W0 : WebAt K C (M2 b fs H') x m ps := fW6.ex up
      have N0 := dp_ex up _ _ fN6
      have gL : ∀ {H1 : Hp}, Step b H' H1 → Liv K H1 (.ref n) lv m ps S := fun s => ⟨dp_ex lo _ _ (dp_ex (M2.step s) _ _ N0), hg, sq_of (lo _ _ (M2.step (q := fs) s _ _ flv)), LS.few, LS.lt, LS.root, LS.pw⟩
      have gW : ∀ {H1 : Hp}, Step b H' H1 → WebAt K C H1 x m ps := fun s => (W0.ex (M2.step s)).ex lo
      have pu : ∀ {H1 H2 : Hp}, Step b H' H1 → Ex H1 H2 → Step b H' H2 := fun s e => s.trans (.pure s.1 e)
      have s0 : Step b H' H' := .refl bg
      -- handed = list(living)
      refine q_asgL (xs := vN S) (el_listL (ev_var rfl) (gL s0).liv) fun hd H1 hd0 e1 hhd => ?_
      have s1 := pu s0 e1
      -- far = web.distances(handed)
      refine q_asgL (el_distV rfl (gW s1) rfl (sq_of hhd) lS hal) fun fr H2 fr0 e2 hfr => ?_
      have s2 := pu s1 e2
      have fr00 : H' fr = none := s1.free fr0
      have nhf : hd ≠ fr := fun e => by rw [← e, hhd] at fr0; cases fr0
      -- far.append(7)
      refine q_app (xs := farV m ps S) hfr (ev_var rfl) ev_c (by rw [far_len]; omega) fun H3 e3 => ?_
      have s3 : Step b H' (upd H3 fr (.lst (farV m ps S ++ [V.int 7]))) := (pu s2 e3).put bg fr00
      have hfr3 : (upd H3 fr (.lst (farV m ps S ++ [V.int 7]))) fr = some (.lst (farV m ps S ++ [V.int 7])) := upd_same
      have hhd3 : (upd H3 fr (.lst (farV m ps S ++ [V.int 7]))) hd = some (.lst (vN S)) := by rw [upd_ne nhf]; exact e3 _ _ (e2 _ _ hhd)
      generalize upd H3 fr (.lst (farV m ps S ++ [V.int 7])) = H4 at *
      -- if web.distances(handed) != far[:-1] or handed != living
      have dS : Rep 1 100000 (dN S) := (rep_dN fun z hz => by have := hal z hz; omega).mono (Nat.le_refl _) (by omega)
      have sl : EvL (tSl (rSlL K) (tVar 10) tNoPart (tPart (tUn (rU fun i => .int (-i)) (tC (.int 1))))) [some (V.ref sa), some (.ref b.1), some (.int (m : Int)), some (.ref a), some (.ref n), some (.ref x), some (.ref fs), some (.ref lv), some (.int (i : Int)), some (.ref hd), some (.ref fr), o11, o12, o13, o14, none] H4 (farV m ps S) := by
        have h9 := el_sl (K := K) (te := tVar 10) (σ := [some (V.ref sa), some (.ref b.1), some (.int (m : Int)), some (.ref a), some (.ref n), some (.ref x), some (.ref fs), some (.ref lv), some (.int (i : Int)), some (.ref hd), some (.ref fr), o11, o12, o13, o14, none]) (H := H4) (ev_var rfl) eo_none (eo_some (te := tUn (rU fun i => .int (-i)) (tC (.int 1))) (ev_un (x := .int 1) ev_c ru_neg)) (sq_of hfr3)
        have h8 := cutV_init (farV m ps S) (V.int 7)
        rw [h8] at h9
        exact h9
      refine q_when (b := false || false) (et_or (et_test (ev_neS (el_distV rfl (gW s3) rfl (sq_of hhd3) lS hal) sl (fun H1 _ => far_dps _ _ _) (rep_far (by omega)) (by decide))) (fun _ => et_test (ev_op (ev_var rfl) (ev_var rfl) (rv_neD (d := dN S) (.lst (sq_of hhd3) (vN_dps _)) (.lst (gL s3).liv (vN_dps _)) dS (by decide))))) (fun h => nomatch h) fun _ H5 e5 => ?_
      have s5 := pu s3 e5
      -- far.pop()
      refine ⟨_, rfl, .inl ⟨rfl, _, sq_of (e5 _ _ hfr3)⟩, fr, farV m ps S ++ [V.int 7], .int 7, rfl, rfl, e5 _ _ hfr3, by rw [List.length_append, List.length_singleton, Nat.add_sub_cancel, List.getElem?_append_right (Nat.le_refl _), Nat.sub_self]; rfl, ?_⟩
      rw [List.dropLast_concat]
      have s6 : Step b H' (upd H5 fr (.lst (farV m ps S))) := s5.put bg fr00
      have hfr6 : (upd H5 fr (.lst (farV m ps S))) fr = some (.lst (farV m ps S)) := upd_same
      have hhd6 : (upd H5 fr (.lst (farV m ps S))) hd = some (.lst (vN S)) := by rw [upd_ne nhf]; exact e5 _ _ hhd3
      generalize upd H5 fr (.lst (farV m ps S)) = H7 at *
      have lr : (reached m ps S).length ≤ S.length := List.length_filter_le ..
      have dR : Rep 1 100000 (dN (reached m ps S)) := (rep_dN fun z hz => by have := hal z (List.mem_filter.mp hz).1; omega).mono (Nat.le_refl _) (by omega)
      -- reached
      refine q_asgL (xs := vN (reached m ps S)) (el_cl (ea_cons (ev_var rfl) (ea_cons (ev_var rfl) ea_nil)) (fun H8 e8 Q q E => ⟨_, lv, m, ps, S, rfl, gL (pu s6 e8), q⟩)) fun r H8 r0 e8 hr8 => ?_
      have s8 := pu s6 e8
      have hfr8 := e8 _ _ hfr6
      have hhd8 := e8 _ _ hhd6
      -- if len(far) != many or [..] != reached
      refine q_when (b := false || false) (et_or (et_test (ev_is (ev_op (ev_lenL (ev_var rfl) (sq_of hfr8)) (ev_var rfl) (rv_ne rfl)) (by rw [far_len, decide_eq_true rfl]; rfl))) (fun _ => et_test (ev_opL1 (xs := vN (reached m ps S)) ?_ (fun H9 e9 => ev_var rfl) (fun p H9 hp e9 => rv_neD (d := dN (reached m ps S)) (.lst (sq_of hp) (vN_dps _)) (.lst (sq_of (e9 _ _ hr8)) (vN_dps _)) dR (by decide))))) (fun h => nomatch h) fun _ H9 e9 => ?_
      · have lc := el_lcR1 (ta := tCons (tVar 2) tNil) (σ := [some (V.ref sa), some (.ref b.1), some (.int (m : Int)), some (.ref a), some (.ref n), some (.ref x), some (.ref fs), some (.ref lv), some (.int (i : Int)), some (.ref hd), some (.ref fr), some (.ref r), o12, o13, o14, none]) (H := H8) (j := 15) (vs := [15]) (n := (m : Int)) (t := tTest (tOp (fun x y H Q => y = .non ∧ Q (.bl (!decide (x = .non))) H) (tOp (rIxL K) (tVar 10) (tVar 15)) (tC .non))) (te := tVar 15) (fun z => !(far m ps S z).isNone) (fun z => V.int (z : Int)) (ea_cons (ev_var rfl) ea_nil) ⟨by omega, by omega⟩ (fun _ => rfl)
          (fun z H9 e9 hz => et_test (ev_is (ev_op (ev_op (ev_var rfl) (ev_var rfl) (rv_ixL (sq_of (e9 _ _ hfr8)) (atI_nat (far_get (show z < m by omega))))) ev_c (z := .bl (!decide (oV (far m ps S z) = .non))) (rv_val fun H e Q q => ⟨rfl, q⟩)) (by rw [oV_non])))
          (fun z H9 e9 hz _ => ev_var rfl)
        have ge : given (m : Int).toNat (fun z => !(far m ps S z).isNone) (fun z => V.int (z : Int)) = vN (reached m ps S) := by
          rw [Int.toNat_natCast, ← there_eq m0 hal LS.root LS.pw]
          rfl
        rw [ge] at lc
        exact lc
      have s9 := pu s8 e9
      have hfr9 := e9 _ _ hfr8
      -- if not fair(near, living, far)
      refine q_when (b := !true) (et_not (et_B (ev_cl (ea_cons (ev_var rfl) (ea_cons (ev_var rfl) (ea_cons (ev_var rfl) ea_nil))) (fun H10 e10 Q q E => ⟨_, lv, fr, m, ps, S, rfl, gL (pu s9 e10), sq_of (e10 _ _ hfr9), q⟩)))) (fun h => nomatch h) fun _ H10 e10 => ?_
      have s10 := pu s9 e10
      have hfr10 := e10 _ _ hfr9
      have hhd10 := e10 _ _ (e9 _ _ hhd8)
      have hr10 := e10 _ _ (e9 _ _ hr8)
      -- the roads
      refine q_forLn (xs := vN (reached m ps S)) (ev_var rfl) (sq_of hr10) (fun j σ' H' => ∃ o12, σ' = [some (.ref sa), some (.ref b.1), some (.int (m : Int)), some (.ref a), some (.ref n), some (.ref x), some (.ref fs), some (.ref lv), some (.int (i : Int)), some (.ref hd), some (.ref fr), some (.ref r), o12, o13, o14, none] ∧ Ex H10 H') (fun H11 e11 => ⟨o12, rfl, e11⟩) (fun j σ' H11 _ h => ?_) (fun j y σ' H11 hy h => ?_) (fun σ' H11 h => ?_)
      · obtain ⟨_, _, e11⟩ := h
        exact sq_of (e11 _ _ hr10)
      · obtain ⟨o12, rfl, e11⟩ := h
        obtain ⟨pl, rfl, hpl⟩ := vN_at hy
        obtain ⟨_, kk, hkk⟩ := reach_in (List.mem_of_getElem? hpl)
        have s11 := pu s10 e11
        refine s_when (b := false) (fun H12 e12 Q q => ⟨_, rfl, _, rfl, _, rfl, _, rfl, _, rfl, _, rfl, .ref n, lv, fr, m, ps, S, pl, kk, rfl, gL (pu s11 e12), sq_of (e12 _ _ (e11 _ _ hfr10)), hkk, fun l rs H13 l0 e13 hl R => ⟨x, lv, l, m, ps, S, rs, pl, rfl, gW (pu (pu s11 e12) e13), (gL (pu (pu s11 e12) e13)).liv, lS, hal, sq_of hl, R, fun H14 e14 => ⟨true, true, rfl, rfl, false, rfl, q H14 (e13.trans e14)⟩⟩⟩) (fun h => nomatch h) fun _ H12 e12 => ⟨_, rfl, e11.trans e12⟩
      obtain ⟨o12, rfl, e11⟩ := h
      have s11 := pu s10 e11
      have hhd11 := e11 _ _ hhd10
      have hr11 := e11 _ _ hr10
      have hfr11 := e11 _ _ hfr10
      have lcut : (cutOf m ps S).length ≤ S.length := List.length_filter_le ..
      have dC : Rep 60 1000000 (dN (cutOf m ps S)) := rep_nats (fun z hz => by have := hal z (List.mem_filter.mp hz).1; omega) (by omega)
      -- cut = web.cut(handed)
      refine q_asgL (el_cutV rfl (gW s11) rfl (sq_of hhd11) lS hal) fun ct H12 ct0 e12 hct => ?_
      have s12 := pu s11 e12
      -- due
      refine q_asgL (xs := vN (cutOf m ps S)) ?_ fun du H13 du0 e13 hdu => ?_
      · have lc := el_lcL (K := K) (σ := [some (V.ref sa), some (.ref b.1), some (.int (m : Int)), some (.ref a), some (.ref n), some (.ref x), some (.ref fs), some (.ref lv), some (.int (i : Int)), some (.ref hd), some (.ref fr), some (.ref r), o12, some (.ref ct), o14, none]) (H := H12) (tl := tVar 7) (j := 15) (vs := [15]) (t := tTest (tOp (rIn K true) (tVar 15) (tVar 11))) (te := tVar 15) (fun z => (fun q => !decide (q ∈ reached m ps S)) (S.getD z 0)) (fun z => V.int ((S.getD z 0 : Nat) : Int)) (ev_var rfl) (gL s12).liv (by rw [vN_len]; omega) (fun _ => rfl)
          (fun z y H13 e13 hz => by
            obtain ⟨rfl, _⟩ := getD_nat hz
            exact et_test (ev_is (ev_op (ev_var rfl) (ev_var rfl) (rv_niL (sq_of (e13 _ _ (e12 _ _ hr11))) rfl (vN_flat _))) (by rw [inV_nat])))
          (fun z y H13 e13 hz _ => by
            obtain ⟨rfl, _⟩ := getD_nat hz
            exact ev_var rfl)
        rw [vN_len, given_filter S (fun q => !decide (q ∈ reached m ps S)), due_eq] at lc
        exact lc
      have s13 := pu s12 e13
      have hct13 := e13 _ _ hct
      have hhd13 := e13 _ _ (e12 _ _ hhd11)
      have hfr13 := e13 _ _ (e12 _ _ hfr11)
      -- if not alike(cut, due) or handed != living
      refine q_when (b := !true || false) (et_or (et_not (et_B (ev_cl (ea_cons (ev_var rfl) (ea_cons (ev_var rfl) ea_nil)) (fun H14 e14 Q q E => ⟨.ref ct, .ref du, dN (cutOf m ps S), rfl, .lst (sq_of (e14 _ _ hct13)) (vN_dps _), .lst (sq_of (e14 _ _ hdu)) (vN_dps _), dC, q⟩)))) (fun _ => et_test (ev_op (ev_var rfl) (ev_var rfl) (rv_neD (d := dN S) (.lst (sq_of hhd13) (vN_dps _)) (.lst (gL s13).liv (vN_dps _)) dS (by decide))))) (fun h => nomatch h) fun _ H14 e14 => ?_
      have s14 := pu s13 e14
      -- web.cut(handed).append(7)
      refine el_cutV (i := 5) (j := 9) rfl (gW s14) rfl (sq_of (e14 _ _ hhd13)) lS hal H14 (Ex.refl _) _ fun p H15 p0 e15 hp15 => ⟨.inl ⟨rfl, _, sq_of hp15⟩, p, vN (cutOf m ps S), .int 7, rfl, rfl, hp15, sz_lt (by rw [vN_len]; omega), ?_⟩
      have s15 := pu s14 e15
      have s16 : Step b H' (upd H15 p (.lst (vN (cutOf m ps S) ++ [V.int 7]))) := s15.put bg (s14.free p0)
      have st16 : ∀ {c : Addr} {o : HO}, H14 c = some o → (upd H15 p (.lst (vN (cutOf m ps S) ++ [V.int 7]))) c = some o := fun {c o} h => by
        rw [upd_ne (fun e => by rw [← e, h] at p0; cases p0)]
        exact e15 _ _ h
      have hct16 := st16 (e14 _ _ hct13)
      have hfr16 := st16 (e14 _ _ hfr13)
      generalize upd H15 p (.lst (vN (cutOf m ps S) ++ [V.int 7])) = H16 at *
      have ctb : ct ≠ b.1 := s11.1.ne ct0
      have frb : fr ≠ b.1 := s1.1.ne fr0
      -- if not cuts_right(bag, web, near, living, cut)
      refine ⟨_, rfl, _, rfl, _, rfl, _, rfl, _, rfl, b, x, lv, ct, .ref n, m, ps, S, rfl, s16.1, (W0.ex (M2.step s16)).ex lm, ?_, sq_of (by rw [mask_at ctb]; exact hct16), fun H17 s17 => ⟨true, rfl, iteF ?_⟩⟩
      · exact ⟨dp_ex lm _ _ (dp_ex (M2.step s16) _ _ N0), hg, sq_of (lm _ _ (M2.step (q := fs) s16 _ _ flv)), LS.few, LS.lt, LS.root, LS.pw⟩
      have s18 := s16.trans s17
      have hfr17 := s17.at frb hfr16
      have hfs17 := s18.at nq hfs
      -- fars.append([..])
      refine q_appL (xs := us) (ys := vN (FV m ps S)) hfs17 (ev_var rfl) ?_ (by omega) fun u H18 u0 e18 hu => ?_
      · have lc := el_map (K := K) (σ := [some (V.ref sa), some (.ref b.1), some (.int (m : Int)), some (.ref a), some (.ref n), some (.ref x), some (.ref fs), some (.ref lv), some (.int (i : Int)), some (.ref hd), some (.ref fr), some (.ref r), o12, some (.ref ct), some (.ref du), none]) (H := H17) (tl := tVar 10) (te := tIf (tTest (tOp (fun x y H Q => y = .non ∧ Q (.bl (decide (x = .non))) H) (tVar 15) (tC .non))) (tC (.int 99)) (tVar 15)) (j := 15) (vs := [15]) (fun z => V.int (((far m ps S z).getD 99 : Nat) : Int)) (ev_var rfl) (sq_of hfr17) (by rw [far_len]; omega) (fun _ => rfl) (fun z y H18 e18 hz => by
          have hzm : z < m := by
            have := (List.getElem?_eq_some_iff.mp hz).1
            rw [far_len] at this
            exact this
          rw [far_get hzm] at hz
          obtain rfl : oV (far m ps S z) = y := Option.some.inj hz
          cases q : far m ps S z with
          | none => exact ev_if (b := true) (et_test (ev_op (ev_var rfl) ev_c (z := .bl true) (rv_val fun H e Q q => ⟨rfl, q⟩))) (fun _ => ev_c) (fun h => nomatch h)
          | some kk => exact ev_if (b := false) (et_test (ev_op (ev_var rfl) ev_c (z := .bl false) (rv_val fun H e Q q => ⟨rfl, q⟩))) (fun h => nomatch h) (fun _ => ev_var rfl))
        have ef : (List.range (farV m ps S).length).map (fun z => V.int (((far m ps S z).getD 99 : Nat) : Int)) = vN (FV m ps S) := by
          rw [far_len]
          unfold vN FV
          rw [List.map_map]
          rfl
        rw [ef] at lc
        exact lc
      have s19 := pu s18 e18
      have ub : u ≠ b.1 := s17.1.ne u0
      have uf : u ≠ fs := fun e => by rw [e, hfs17] at u0; cases u0
      have em : M2 b fs (upd H18 fs (.lst (us ++ [V.ref u]))) = M2 b fs H18 := M2.put
      have bg19 : Bag (upd H18 fs (.lst (us ++ [V.ref u]))) b := Bag_upd s19.1 nq nq2
      have hfs19 : (upd H18 fs (.lst (us ++ [V.ref u]))) fs = some (.lst (us ++ [V.ref u])) := upd_same
      have hu19 : (upd H18 fs (.lst (us ++ [V.ref u]))) u = some (.lst (vN (FV m ps S))) := by rw [upd_ne uf]; exact hu
      have st19 : Ex (M2 b fs H') (M2 b fs (upd H18 fs (.lst (us ++ [V.ref u])))) := by rw [em]; exact M2.step s19
      generalize upd H18 fs (.lst (us ++ [V.ref u])) = H19 at *
      have lvS : SqL K H19 lv (vN S) := sq_of (lo _ _ (st19 _ _ flv))
      -- living = [0] + [..]
      refine ⟨by show 1 ≤ sizeLine; decide, fun p2 hp2 => ?_⟩
      have e20 : Ex H19 (upd H19 p2 (.lst [V.int 0])) := Ex.new hp2
      have hp20 : (upd H19 p2 (.lst [V.int 0])) p2 = some (.lst [V.int 0]) := upd_same
      have p2b : p2 ≠ b.1 := bg19.ne hp2
      generalize upd H19 p2 (.lst [V.int 0]) = H20 at *
      refine ⟨_, rfl, 1, rfl, lv, vN S, rfl, ex_l e20 lvS, fun t2 ht2 => ?_⟩
      have e21 : Ex H20 (upd H20 t2 (.lst (cutV (vN S) (some 1) none))) := Ex.new ht2
      have ht21 : (upd H20 t2 (.lst (cutV (vN S) (some 1) none))) t2 = some (.lst (cutV (vN S) (some 1) none)) := upd_same
      have ecut : cutV (vN S) (some 1) none = vN tl := by
        rw [cut1, ← hS]
        rfl
      rw [ecut] at ht21 e21 ⊢
      have t2b : t2 ≠ b.1 := (bg19.ex e20).ne ht2
      generalize upd H20 t2 (.lst (vN tl)) = H21 at *
      have s21 : Step b H19 H21 := .pure bg19 (e20.trans e21)
      refine ⟨t2, rfl, ⟨_, sq_of ht21⟩, fun N hN => lc_list (xs := vN tl) (fun j H' => Step b H21 H' ∧ ∃ rs, H' N = some (.lst (vN rs)) ∧ rs.Sublist (tl.take j)) ⟨.pure s21.1 (Ex.new hN), [], upd_same, List.nil_sublist _⟩ (fun j H22 _ h => sq_of (h.1.at t2b ht21)) ?_ ?_⟩
      · rintro j y H22 hy ⟨s22, rs, hrs, hsub⟩
        obtain ⟨z, rfl, hz⟩ := vN_at hy
        have nbN : N ≠ b.1 := s21.1.ne hN
        have htk : tl.take (j + 1) = tl.take j ++ [z] := by rw [List.take_add_one, hz]; rfl
        have ltl : tl.length ≤ 30 := by rw [← hS, List.length_cons] at lS; omega
        refine ⟨rfl, (tany_gt (i := 1) s22.1 rfl ⟨by decide, by decide⟩) _ fun c H23 s23 => ?_⟩
        have h23 := s23.at nbN hrs
        cases c with
        | false => exact ⟨s22.trans s23, rs, h23, by rw [htk]; exact hsub.trans (List.sublist_append_left _ _)⟩
        | true =>
          have lrs := hsub.length_le
          rw [List.length_take] at lrs
          refine ⟨_, rfl, _, h23, sz_lt (by rw [vN_len]; omega), (s22.trans s23).put s21.1 hN, rs ++ [z], ?_, by rw [htk]; exact hsub.append (List.Sublist.refl _)⟩
          rw [upd_same, vN_snoc]
      · rintro H22 ⟨s22, rs, hrs, hsub⟩
        rw [vN_len, List.take_length] at hsub
        have ltl : tl.length + 1 ≤ 30 := by rw [← hS, List.length_cons] at lS; exact lS
        have lrs := hsub.length_le
        have big : 1000 ≤ sizeLine := by decide
        refine ⟨p2, N, [.int 0], vN rs, rfl, rfl, s22.at p2b (e21 _ _ hp20), hrs, by rw [vN_len, List.length_singleton]; omega, fun l2 hl2 => ?_⟩
        have sF : Step b H19 (upd H22 l2 (.lst ([V.int 0] ++ vN rs))) := (s21.trans s22).trans (.pure s22.1 (Ex.new hl2))
        have hlF : (upd H22 l2 (.lst ([V.int 0] ++ vN rs))) l2 = some (.lst (vN (0 :: rs))) := upd_same
        have l2b : l2 ≠ b.1 := s22.1.ne hl2
        have l2f : l2 ≠ fs := fun e => by
          have := (s21.trans s22).at nq hfs19
          rw [← e, hl2] at this
          cases this
        generalize upd H22 l2 (.lst ([V.int 0] ++ vN rs)) = HF at *
        have stF : Ex (M2 b fs H') (M2 b fs HF) := st19.trans (M2.step sF)
        have subS : ∀ z ∈ 0 :: rs, z ∈ S := fun z hz => by
          rw [← hS]
          rcases List.mem_cons.mp hz with rfl | hz
          · exact List.mem_cons_self
          · exact List.mem_cons_of_mem _ (hsub.subset hz)
        refine ⟨_, _, _, _, _, _, _, l2, rs, us ++ [.ref u], fun j => if j = i then S else als j, rfl, sF.1, up.trans stF, sF.at nq hfs19, by rw [M2.at l2b l2f]; exact hlF, ⟨by rw [List.length_cons]; omega, fun z hz => hal z (subS z hz), List.mem_cons_self, ?_⟩, by rw [List.length_append, hlen]; rfl, fun j hj => ?_, fun j hj => ?_, fun j l hjl hl z hz => ?_⟩
        · have := LS.pw
          rw [← hS] at this
          exact this.sublist (hsub.cons₂ 0)
        · by_cases e : j = i
          · refine ⟨u, by rw [List.getElem?_append_right (by omega), hlen, e, Nat.sub_self]; rfl, ?_⟩
            show M2 b fs HF u = some (.lst (vN (FV m ps (if j = i then S else als j))))
            rw [if_pos e, M2.at ub uf]
            exact sF.at ub hu19
          · obtain ⟨u2, h1, h2⟩ := hist j (by omega)
            refine ⟨u2, by rw [List.getElem?_append_left (by omega)]; exact h1, ?_⟩
            show M2 b fs HF u2 = some (.lst (vN (FV m ps (if j = i then S else als j))))
            rw [if_neg e]
            exact stF _ _ h2
        · show (∀ z ∈ (if j = i then S else als j), z < m) ∧ ∀ z ∈ 0 :: rs, z ∈ (if j = i then S else als j)
          by_cases e : j = i
          · rw [if_pos e]
            exact ⟨hal, subS⟩
          · rw [if_neg e]
            obtain ⟨h1, h2⟩ := sub j (by omega)
            exact ⟨h1, fun z hz => h2 z (subS z hz)⟩
        · have hz : z ∈ (if l = i then S else als l) := hz
          show z ∈ (if j = i then S else als j)
          by_cases e : l = i
          · rw [if_pos e] at hz
            by_cases e2 : j = i
            · rw [if_pos e2]
              exact hz
            · rw [if_neg e2]
              exact (sub j (by omega)).2 z hz
          · rw [if_neg e] at hz
            rw [if_neg (by omega)]
            exact mono j l hjl (by omega) z hz
    · rintro σ' H' ⟨o8, o9, o10, o11, o12, o13, o14, lv, tl, us, als, rfl, bg, up, hfs, flv, LS, hlen, hist, sub, mono⟩
      have hlen3 : us.length = 3 := hlen
      have W0 : WebAt K C (mask b.1 H') x m ps := (fW6.ex up).ex lm
      have N0 := dp_ex lm _ _ (dp_ex up _ _ fN6)
      -- if not again(bag, web, near, living(bag, many))
      refine ⟨_, rfl, _, rfl, _, rfl, _, rfl, _, rfl, b, m, rfl, bg, m2, m10, fun l al H7 s7 l0 hl pw lt len => ?_⟩
      have up7 := M2.up (q := l) s7 l0
      refine ⟨b, x, l, .ref n, m, ps, 0 :: al, rfl, s7.1, bg.ne l0, bg.ne2 l0, hl, ⟨by rw [List.length_cons]; omega, lt, List.mem_cons_self, pw⟩, W0.ex up7, dp_ex up7 _ _ N0, fun H8 bg8 up8 => ⟨true, rfl, iteF ?_⟩⟩
      have E8 : Ex (mask b.1 H') H8 := (up7.trans up8).trans ((M2.le b l H8).trans (mask_le _ _))
      have hfs8 : H8 fs = some (.lst us) := E8 _ _ (by rw [mask_at nq]; exact hfs)
      have row : ∀ j, j < 3 → ∃ u, us[j]? = some (.ref u) ∧ H8 u = some (.lst (vN (FV m ps (als j)))) := fun j hj => by
        obtain ⟨u, h1, h2⟩ := hist j hj
        exact ⟨u, h1, E8 _ _ (lm _ _ h2)⟩
      obtain ⟨u0, a0, c0⟩ := row 0 (by decide)
      obtain ⟨u1, a1, c1⟩ := row 1 (by decide)
      obtain ⟨u2, a2, c2⟩ := row 2 (by decide)
      have fld : ∀ {σ : L2.St} {H9 : Hp} {j z : Nat} {u : Addr}, σ[6]? = some (some (.ref fs)) → σ[8]? = some (some (.int (z : Int))) → Ex H8 H9 → us[j]? = some (.ref u) → H8 u = some (.lst (vN (FV m ps (als j)))) → z < m → Ev (tOp (rIxL K) (tOp (rIxL K) (tVar 6) (tC (.int (j : Int)))) (tVar 8)) σ H9 (.int (((far m ps (als j) z).getD 99 : Nat) : Int)) := fun h6 h8 e hj hu hz =>
        ev_op (ev_op (ev_var h6) ev_c (rv_ixL (sq_of (e _ _ hfs8)) (atI_nat hj))) (ev_var h8) (rv_ixL (sq_of (e _ _ hu)) (atI_nat (vN_get (FV_get hz))))
      have le01 : ∀ z, (far m ps (als 0) z).getD 99 ≤ (far m ps (als 1) z).getD 99 := FV_le m0 m10 (sub 1 (by decide)).1 (sub 0 (by decide)).1 (mono 0 1 (by decide) (by decide))
      have le12 : ∀ z, (far m ps (als 1) z).getD 99 ≤ (far m ps (als 2) z).getD 99 := FV_le m0 m10 (sub 2 (by decide)).1 (sub 1 (by decide)).1 (mono 1 2 (by decide) (by decide))
      have lc := el_lcR1 (ta := tCons (tVar 2) tNil) (σ := [some (V.ref sa), some (.ref b.1), some (.int (m : Int)), some (.ref a), some (.ref n), some (.ref x), some (.ref fs), some (.ref lv), o8, o9, o10, o11, o12, o13, o14, none]) (H := H8) (j := 8) (vs := [8]) (n := (m : Int)) (t := tOr (tTest (tOp (rI0 fun i j => .bl (decide (j < i))) (tOp (rIxL K) (tOp (rIxL K) (tVar 6) (tC (.int ((0 : Nat) : Int)))) (tVar 8)) (tOp (rIxL K) (tOp (rIxL K) (tVar 6) (tC (.int ((1 : Nat) : Int)))) (tVar 8)))) (tTest (tOp (rI0 fun i j => .bl (decide (j < i))) (tOp (rIxL K) (tOp (rIxL K) (tVar 6) (tC (.int ((1 : Nat) : Int)))) (tVar 8)) (tOp (rIxL K) (tOp (rIxL K) (tVar 6) (tC (.int ((2 : Nat) : Int)))) (tVar 8))))) (te := tVar 8) (fun _ => false) (fun z => V.non) (ea_cons (ev_var rfl) ea_nil) ⟨by omega, by omega⟩ (fun _ => rfl)
        (fun z H9 e9 hz => by
          have hzm : z < m := by omega
          refine et_is (et_or (a := false) (b := false) (et_test (ev_is (ev_op (fld rfl rfl e9 a0 c0 hzm) (fld rfl rfl e9 a1 c1 hzm) rv_I0) ?_)) (fun _ => et_test (ev_is (ev_op (fld rfl rfl e9 a1 c1 hzm) (fld rfl rfl e9 a2 c2 hzm) rv_I0) ?_))) rfl
          · rw [decide_eq_false (by have := le01 z; omega)]
          · rw [decide_eq_false (by have := le12 z; omega)])
        (fun z H9 e9 hz h => nomatch h)
      have ge : given (m : Int).toNat (fun _ => false) (fun _ => V.non) = [] := by
        unfold given
        rw [List.filter_eq_nil_iff.mpr fun _ _ => Bool.false_ne_true]
        rfl
      rw [ge] at lc
      have ev := ev_opLL (r := rEqD K) (tb := tLst tNil) (z := .bl true) lc (el_lst ea_nil (Nat.zero_le _)) fun p r H9 hp hr _ => rv_val fun H10 e10 Q q => ⟨_, _, .lst (sq_of (e10 _ _ hp)) .nil, .lst (sq_of (e10 _ _ hr)) .nil, rfl, rfl, q⟩
      exact ev H8 (Ex.refl _) _ fun H9 _ => k _
end
theorem all_mk {l : PySem.W.OpenLaw} {w : World} {K : PySem.W.Frag} {h : Heap} {mg : Str → Option Value} {fa f_number_of f_tuple_of f_list_of f_is_within f_rises f_pair_of f_pairs_of f_near_lists f_road_holds f_cut_holds f_bag f_take f_web f_near f_alike f_living f_fair f_reached f_road f_closed f_cuts_right f_again C f_Web__init f_Web_neighbours f_Web_distances f_Web_cut f_Web_known f_Web_touches f_law : Addr} (X : K.In h) (G : h.Ns mainGlobals mg) (hfa : mg "law" = some (.ref fa))
    {oc_number_of kV_number_of dc_number_of pm_number_of cd_number_of ct_number_of oc_tuple_of kV_tuple_of dc_tuple_of pm_tuple_of cd_tuple_of ct_tuple_of oc_list_of kV_list_of dc_list_of pm_list_of cd_list_of ct_list_of oc_is_within kV_is_within dc_is_within pm_is_within cd_is_within ct_is_within oc_rises kV_rises dc_rises pm_rises cd_rises ct_rises oc_pair_of kV_pair_of dc_pair_of pm_pair_of cd_pair_of ct_pair_of oc_pairs_of kV_pairs_of dc_pairs_of pm_pairs_of cd_pairs_of ct_pairs_of oc_near_lists kV_near_lists dc_near_lists pm_near_lists cd_near_lists ct_near_lists oc_road_holds kV_road_holds dc_road_holds pm_road_holds cd_road_holds ct_road_holds oc_cut_holds kV_cut_holds dc_cut_holds pm_cut_holds cd_cut_holds ct_cut_holds oc_bag kV_bag dc_bag pm_bag cd_bag ct_bag oc_take kV_take dc_take pm_take cd_take ct_take oc_web kV_web dc_web pm_web cd_web ct_web oc_near kV_near dc_near pm_near cd_near ct_near oc_alike kV_alike dc_alike pm_alike cd_alike ct_alike oc_living kV_living dc_living pm_living cd_living ct_living oc_fair kV_fair dc_fair pm_fair cd_fair ct_fair oc_reached kV_reached dc_reached pm_reached cd_reached ct_reached oc_road kV_road dc_road pm_road cd_road ct_road oc_closed kV_closed dc_closed pm_closed cd_closed ct_closed oc_cuts_right kV_cuts_right dc_cuts_right pm_cuts_right cd_cuts_right ct_cuts_right oc_again kV_again dc_again pm_again cd_again ct_again oc_Web__init kV_Web__init dc_Web__init pm_Web__init cd_Web__init ct_Web__init oc_Web_neighbours kV_Web_neighbours dc_Web_neighbours pm_Web_neighbours cd_Web_neighbours ct_Web_neighbours oc_Web_distances kV_Web_distances dc_Web_distances pm_Web_distances cd_Web_distances ct_Web_distances oc_Web_cut kV_Web_cut dc_Web_cut pm_Web_cut cd_Web_cut ct_Web_cut oc_Web_known kV_Web_known dc_Web_known pm_Web_known cd_Web_known ct_Web_known oc_Web_touches kV_Web_touches dc_Web_touches pm_Web_touches cd_Web_touches ct_Web_touches oc_law kV_law dc_law pm_law cd_law ct_law : Value} {od_number_of an_number_of od_tuple_of an_tuple_of od_list_of an_list_of od_is_within an_is_within od_rises an_rises od_pair_of an_pair_of od_pairs_of an_pairs_of od_near_lists an_near_lists od_road_holds an_road_holds od_cut_holds an_cut_holds od_bag an_bag od_take an_take od_web an_web od_near an_near od_alike an_alike od_living an_living od_fair an_fair od_reached an_reached od_road an_road od_closed an_closed od_cuts_right an_cuts_right od_again an_again od_Web__init an_Web__init od_Web_neighbours an_Web_neighbours od_Web_distances an_Web_distances od_Web_cut an_Web_cut od_Web_known an_Web_known od_Web_touches an_Web_touches od_law an_law : Option Addr} {sl_number_of sl_tuple_of sl_list_of sl_is_within sl_rises sl_pair_of sl_pairs_of sl_near_lists sl_road_holds sl_cut_holds sl_bag sl_take sl_web sl_near sl_alike sl_living sl_fair sl_reached sl_road sl_closed sl_cuts_right sl_again sl_Web__init sl_Web_neighbours sl_Web_distances sl_Web_cut sl_Web_known sl_Web_touches sl_law : Array (Option Value)}
    (a_number_of : PySem.W.nsIn K mainGlobals "number_of" = some (some (.ref f_number_of)))
    (l_number_of : K.lookup f_number_of = some ⟨oc_number_of, od_number_of, .func (PySem.W.fnOf "number_of" "number_of" (defArgs s_number_of) (defBody s_number_of) (defScope s_number_of) .none kV_number_of dc_number_of pm_number_of an_number_of cd_number_of ct_number_of), sl_number_of⟩)
    (cdi_number_of : PySem.W.codeIn K cd_number_of "number_of" = true)
    (k_number_of : PySem.W.keepIn K (.ref f_number_of) = true)
    (a_tuple_of : PySem.W.nsIn K mainGlobals "tuple_of" = some (some (.ref f_tuple_of)))
    (l_tuple_of : K.lookup f_tuple_of = some ⟨oc_tuple_of, od_tuple_of, .func (PySem.W.fnOf "tuple_of" "tuple_of" (defArgs s_tuple_of) (defBody s_tuple_of) (defScope s_tuple_of) .none kV_tuple_of dc_tuple_of pm_tuple_of an_tuple_of cd_tuple_of ct_tuple_of), sl_tuple_of⟩)
    (cdi_tuple_of : PySem.W.codeIn K cd_tuple_of "tuple_of" = true)
    (k_tuple_of : PySem.W.keepIn K (.ref f_tuple_of) = true)
    (a_list_of : PySem.W.nsIn K mainGlobals "list_of" = some (some (.ref f_list_of)))
    (l_list_of : K.lookup f_list_of = some ⟨oc_list_of, od_list_of, .func (PySem.W.fnOf "list_of" "list_of" (defArgs s_list_of) (defBody s_list_of) (defScope s_list_of) .none kV_list_of dc_list_of pm_list_of an_list_of cd_list_of ct_list_of), sl_list_of⟩)
    (cdi_list_of : PySem.W.codeIn K cd_list_of "list_of" = true)
    (k_list_of : PySem.W.keepIn K (.ref f_list_of) = true)
    (a_is_within : PySem.W.nsIn K mainGlobals "is_within" = some (some (.ref f_is_within)))
    (l_is_within : K.lookup f_is_within = some ⟨oc_is_within, od_is_within, .func (PySem.W.fnOf "is_within" "is_within" (defArgs s_is_within) (defBody s_is_within) (defScope s_is_within) .none kV_is_within dc_is_within pm_is_within an_is_within cd_is_within ct_is_within), sl_is_within⟩)
    (cdi_is_within : PySem.W.codeIn K cd_is_within "is_within" = true)
    (k_is_within : PySem.W.keepIn K (.ref f_is_within) = true)
    (a_rises : PySem.W.nsIn K mainGlobals "rises" = some (some (.ref f_rises)))
    (l_rises : K.lookup f_rises = some ⟨oc_rises, od_rises, .func (PySem.W.fnOf "rises" "rises" (defArgs s_rises) (defBody s_rises) (defScope s_rises) .none kV_rises dc_rises pm_rises an_rises cd_rises ct_rises), sl_rises⟩)
    (cdi_rises : PySem.W.codeIn K cd_rises "rises" = true)
    (k_rises : PySem.W.keepIn K (.ref f_rises) = true)
    (a_pair_of : PySem.W.nsIn K mainGlobals "pair_of" = some (some (.ref f_pair_of)))
    (l_pair_of : K.lookup f_pair_of = some ⟨oc_pair_of, od_pair_of, .func (PySem.W.fnOf "pair_of" "pair_of" (defArgs s_pair_of) (defBody s_pair_of) (defScope s_pair_of) .none kV_pair_of dc_pair_of pm_pair_of an_pair_of cd_pair_of ct_pair_of), sl_pair_of⟩)
    (cdi_pair_of : PySem.W.codeIn K cd_pair_of "pair_of" = true)
    (k_pair_of : PySem.W.keepIn K (.ref f_pair_of) = true)
    (a_pairs_of : PySem.W.nsIn K mainGlobals "pairs_of" = some (some (.ref f_pairs_of)))
    (l_pairs_of : K.lookup f_pairs_of = some ⟨oc_pairs_of, od_pairs_of, .func (PySem.W.fnOf "pairs_of" "pairs_of" (defArgs s_pairs_of) (defBody s_pairs_of) (defScope s_pairs_of) .none kV_pairs_of dc_pairs_of pm_pairs_of an_pairs_of cd_pairs_of ct_pairs_of), sl_pairs_of⟩)
    (cdi_pairs_of : PySem.W.codeIn K cd_pairs_of "pairs_of" = true)
    (k_pairs_of : PySem.W.keepIn K (.ref f_pairs_of) = true)
    (a_near_lists : PySem.W.nsIn K mainGlobals "near_lists" = some (some (.ref f_near_lists)))
    (l_near_lists : K.lookup f_near_lists = some ⟨oc_near_lists, od_near_lists, .func (PySem.W.fnOf "near_lists" "near_lists" (defArgs s_near_lists) (defBody s_near_lists) (defScope s_near_lists) .none kV_near_lists dc_near_lists pm_near_lists an_near_lists cd_near_lists ct_near_lists), sl_near_lists⟩)
    (cdi_near_lists : PySem.W.codeIn K cd_near_lists "near_lists" = true)
    (k_near_lists : PySem.W.keepIn K (.ref f_near_lists) = true)
    (a_road_holds : PySem.W.nsIn K mainGlobals "road_holds" = some (some (.ref f_road_holds)))
    (l_road_holds : K.lookup f_road_holds = some ⟨oc_road_holds, od_road_holds, .func (PySem.W.fnOf "road_holds" "road_holds" (defArgs s_road_holds) (defBody s_road_holds) (defScope s_road_holds) .none kV_road_holds dc_road_holds pm_road_holds an_road_holds cd_road_holds ct_road_holds), sl_road_holds⟩)
    (cdi_road_holds : PySem.W.codeIn K cd_road_holds "road_holds" = true)
    (k_road_holds : PySem.W.keepIn K (.ref f_road_holds) = true)
    (a_cut_holds : PySem.W.nsIn K mainGlobals "cut_holds" = some (some (.ref f_cut_holds)))
    (l_cut_holds : K.lookup f_cut_holds = some ⟨oc_cut_holds, od_cut_holds, .func (PySem.W.fnOf "cut_holds" "cut_holds" (defArgs s_cut_holds) (defBody s_cut_holds) (defScope s_cut_holds) .none kV_cut_holds dc_cut_holds pm_cut_holds an_cut_holds cd_cut_holds ct_cut_holds), sl_cut_holds⟩)
    (cdi_cut_holds : PySem.W.codeIn K cd_cut_holds "cut_holds" = true)
    (k_cut_holds : PySem.W.keepIn K (.ref f_cut_holds) = true)
    (a_bag : PySem.W.nsIn K mainGlobals "_law_bag" = some (some (.ref f_bag)))
    (l_bag : K.lookup f_bag = some ⟨oc_bag, od_bag, .func (PySem.W.fnOf "_law_bag" "_law_bag" (defArgs s_bag) (defBody s_bag) (defScope s_bag) .none kV_bag dc_bag pm_bag an_bag cd_bag ct_bag), sl_bag⟩)
    (cdi_bag : PySem.W.codeIn K cd_bag "_law_bag" = true)
    (k_bag : PySem.W.keepIn K (.ref f_bag) = true)
    (a_take : PySem.W.nsIn K mainGlobals "_law_take" = some (some (.ref f_take)))
    (l_take : K.lookup f_take = some ⟨oc_take, od_take, .func (PySem.W.fnOf "_law_take" "_law_take" (defArgs s_take) (defBody s_take) (defScope s_take) .none kV_take dc_take pm_take an_take cd_take ct_take), sl_take⟩)
    (cdi_take : PySem.W.codeIn K cd_take "_law_take" = true)
    (k_take : PySem.W.keepIn K (.ref f_take) = true)
    (a_web : PySem.W.nsIn K mainGlobals "_law_web" = some (some (.ref f_web)))
    (l_web : K.lookup f_web = some ⟨oc_web, od_web, .func (PySem.W.fnOf "_law_web" "_law_web" (defArgs s_web) (defBody s_web) (defScope s_web) .none kV_web dc_web pm_web an_web cd_web ct_web), sl_web⟩)
    (cdi_web : PySem.W.codeIn K cd_web "_law_web" = true)
    (k_web : PySem.W.keepIn K (.ref f_web) = true)
    (a_near : PySem.W.nsIn K mainGlobals "_law_near" = some (some (.ref f_near)))
    (l_near : K.lookup f_near = some ⟨oc_near, od_near, .func (PySem.W.fnOf "_law_near" "_law_near" (defArgs s_near) (defBody s_near) (defScope s_near) .none kV_near dc_near pm_near an_near cd_near ct_near), sl_near⟩)
    (cdi_near : PySem.W.codeIn K cd_near "_law_near" = true)
    (k_near : PySem.W.keepIn K (.ref f_near) = true)
    (a_alike : PySem.W.nsIn K mainGlobals "_law_alike" = some (some (.ref f_alike)))
    (l_alike : K.lookup f_alike = some ⟨oc_alike, od_alike, .func (PySem.W.fnOf "_law_alike" "_law_alike" (defArgs s_alike) (defBody s_alike) (defScope s_alike) .none kV_alike dc_alike pm_alike an_alike cd_alike ct_alike), sl_alike⟩)
    (cdi_alike : PySem.W.codeIn K cd_alike "_law_alike" = true)
    (k_alike : PySem.W.keepIn K (.ref f_alike) = true)
    (a_living : PySem.W.nsIn K mainGlobals "_law_living" = some (some (.ref f_living)))
    (l_living : K.lookup f_living = some ⟨oc_living, od_living, .func (PySem.W.fnOf "_law_living" "_law_living" (defArgs s_living) (defBody s_living) (defScope s_living) .none kV_living dc_living pm_living an_living cd_living ct_living), sl_living⟩)
    (cdi_living : PySem.W.codeIn K cd_living "_law_living" = true)
    (k_living : PySem.W.keepIn K (.ref f_living) = true)
    (a_fair : PySem.W.nsIn K mainGlobals "_law_fair" = some (some (.ref f_fair)))
    (l_fair : K.lookup f_fair = some ⟨oc_fair, od_fair, .func (PySem.W.fnOf "_law_fair" "_law_fair" (defArgs s_fair) (defBody s_fair) (defScope s_fair) .none kV_fair dc_fair pm_fair an_fair cd_fair ct_fair), sl_fair⟩)
    (cdi_fair : PySem.W.codeIn K cd_fair "_law_fair" = true)
    (k_fair : PySem.W.keepIn K (.ref f_fair) = true)
    (a_reached : PySem.W.nsIn K mainGlobals "_law_reached" = some (some (.ref f_reached)))
    (l_reached : K.lookup f_reached = some ⟨oc_reached, od_reached, .func (PySem.W.fnOf "_law_reached" "_law_reached" (defArgs s_reached) (defBody s_reached) (defScope s_reached) .none kV_reached dc_reached pm_reached an_reached cd_reached ct_reached), sl_reached⟩)
    (cdi_reached : PySem.W.codeIn K cd_reached "_law_reached" = true)
    (k_reached : PySem.W.keepIn K (.ref f_reached) = true)
    (a_road : PySem.W.nsIn K mainGlobals "_law_road" = some (some (.ref f_road)))
    (l_road : K.lookup f_road = some ⟨oc_road, od_road, .func (PySem.W.fnOf "_law_road" "_law_road" (defArgs s_road) (defBody s_road) (defScope s_road) .none kV_road dc_road pm_road an_road cd_road ct_road), sl_road⟩)
    (cdi_road : PySem.W.codeIn K cd_road "_law_road" = true)
    (k_road : PySem.W.keepIn K (.ref f_road) = true)
    (a_closed : PySem.W.nsIn K mainGlobals "_law_closed" = some (some (.ref f_closed)))
    (l_closed : K.lookup f_closed = some ⟨oc_closed, od_closed, .func (PySem.W.fnOf "_law_closed" "_law_closed" (defArgs s_closed) (defBody s_closed) (defScope s_closed) .none kV_closed dc_closed pm_closed an_closed cd_closed ct_closed), sl_closed⟩)
    (cdi_closed : PySem.W.codeIn K cd_closed "_law_closed" = true)
    (k_closed : PySem.W.keepIn K (.ref f_closed) = true)
    (a_cuts_right : PySem.W.nsIn K mainGlobals "_law_cuts_right" = some (some (.ref f_cuts_right)))
    (l_cuts_right : K.lookup f_cuts_right = some ⟨oc_cuts_right, od_cuts_right, .func (PySem.W.fnOf "_law_cuts_right" "_law_cuts_right" (defArgs s_cuts_right) (defBody s_cuts_right) (defScope s_cuts_right) .none kV_cuts_right dc_cuts_right pm_cuts_right an_cuts_right cd_cuts_right ct_cuts_right), sl_cuts_right⟩)
    (cdi_cuts_right : PySem.W.codeIn K cd_cuts_right "_law_cuts_right" = true)
    (k_cuts_right : PySem.W.keepIn K (.ref f_cuts_right) = true)
    (a_again : PySem.W.nsIn K mainGlobals "_law_again" = some (some (.ref f_again)))
    (l_again : K.lookup f_again = some ⟨oc_again, od_again, .func (PySem.W.fnOf "_law_again" "_law_again" (defArgs s_again) (defBody s_again) (defScope s_again) .none kV_again dc_again pm_again an_again cd_again ct_again), sl_again⟩)
    (cdi_again : PySem.W.codeIn K cd_again "_law_again" = true)
    (k_again : PySem.W.keepIn K (.ref f_again) = true)
    (aC_C : PySem.W.nsIn K mainGlobals "Web" = some (some (.ref C)))
    (pg_C : PySem.W.plainGet K C Str.empty = true)
    (hd_C : PySem.W.hasDictIn K C = true)
    (po_C : PySem.W.plainOver K C = true)
    (sa_C : PySem.W.findIn K (.ref C) "__setattr__" = some (some (.builtin "object.__setattr__")))
    (mk_C : PySem.W.makesIn K C = true)
    (kc_C : PySem.W.keepIn K (.ref C) = true)
    (n_C_many : PySem.W.findIn K (.ref C) "_many" = some none)
    (n_C_pairs : PySem.W.findIn K (.ref C) "_pairs" = some none)
    (n_C_near : PySem.W.findIn K (.ref C) "_near" = some none)
    (a_Web__init : PySem.W.findIn K (.ref C) "__init__" = some (some (.ref f_Web__init)))
    (i_Web__init : PySem.W.isFn K (.ref f_Web__init) = true)
    (l_Web__init : K.lookup f_Web__init = some ⟨oc_Web__init, od_Web__init, .func (PySem.W.fnOf "__init__" "Web.__init__" (defArgs s_Web__init) (defBody s_Web__init) (defScope s_Web__init) .none kV_Web__init dc_Web__init pm_Web__init an_Web__init cd_Web__init ct_Web__init), sl_Web__init⟩)
    (cdi_Web__init : PySem.W.codeIn K cd_Web__init "Web.__init__" = true)
    (k_Web__init : PySem.W.keepIn K (.ref f_Web__init) = true)
    (a_Web_neighbours : PySem.W.findIn K (.ref C) "neighbours" = some (some (.ref f_Web_neighbours)))
    (i_Web_neighbours : PySem.W.isFn K (.ref f_Web_neighbours) = true)
    (l_Web_neighbours : K.lookup f_Web_neighbours = some ⟨oc_Web_neighbours, od_Web_neighbours, .func (PySem.W.fnOf "neighbours" "Web.neighbours" (defArgs s_Web_neighbours) (defBody s_Web_neighbours) (defScope s_Web_neighbours) .none kV_Web_neighbours dc_Web_neighbours pm_Web_neighbours an_Web_neighbours cd_Web_neighbours ct_Web_neighbours), sl_Web_neighbours⟩)
    (cdi_Web_neighbours : PySem.W.codeIn K cd_Web_neighbours "Web.neighbours" = true)
    (k_Web_neighbours : PySem.W.keepIn K (.ref f_Web_neighbours) = true)
    (a_Web_distances : PySem.W.findIn K (.ref C) "distances" = some (some (.ref f_Web_distances)))
    (i_Web_distances : PySem.W.isFn K (.ref f_Web_distances) = true)
    (l_Web_distances : K.lookup f_Web_distances = some ⟨oc_Web_distances, od_Web_distances, .func (PySem.W.fnOf "distances" "Web.distances" (defArgs s_Web_distances) (defBody s_Web_distances) (defScope s_Web_distances) .none kV_Web_distances dc_Web_distances pm_Web_distances an_Web_distances cd_Web_distances ct_Web_distances), sl_Web_distances⟩)
    (cdi_Web_distances : PySem.W.codeIn K cd_Web_distances "Web.distances" = true)
    (k_Web_distances : PySem.W.keepIn K (.ref f_Web_distances) = true)
    (a_Web_cut : PySem.W.findIn K (.ref C) "cut" = some (some (.ref f_Web_cut)))
    (i_Web_cut : PySem.W.isFn K (.ref f_Web_cut) = true)
    (l_Web_cut : K.lookup f_Web_cut = some ⟨oc_Web_cut, od_Web_cut, .func (PySem.W.fnOf "cut" "Web.cut" (defArgs s_Web_cut) (defBody s_Web_cut) (defScope s_Web_cut) .none kV_Web_cut dc_Web_cut pm_Web_cut an_Web_cut cd_Web_cut ct_Web_cut), sl_Web_cut⟩)
    (cdi_Web_cut : PySem.W.codeIn K cd_Web_cut "Web.cut" = true)
    (k_Web_cut : PySem.W.keepIn K (.ref f_Web_cut) = true)
    (a_Web_known : PySem.W.findIn K (.ref C) "_known" = some (some (.ref f_Web_known)))
    (i_Web_known : PySem.W.isFn K (.ref f_Web_known) = true)
    (l_Web_known : K.lookup f_Web_known = some ⟨oc_Web_known, od_Web_known, .func (PySem.W.fnOf "_known" "Web._known" (defArgs s_Web_known) (defBody s_Web_known) (defScope s_Web_known) .none kV_Web_known dc_Web_known pm_Web_known an_Web_known cd_Web_known ct_Web_known), sl_Web_known⟩)
    (cdi_Web_known : PySem.W.codeIn K cd_Web_known "Web._known" = true)
    (k_Web_known : PySem.W.keepIn K (.ref f_Web_known) = true)
    (a_Web_touches : PySem.W.findIn K (.ref C) "_touches" = some (some (.ref f_Web_touches)))
    (i_Web_touches : PySem.W.isFn K (.ref f_Web_touches) = true)
    (l_Web_touches : K.lookup f_Web_touches = some ⟨oc_Web_touches, od_Web_touches, .func (PySem.W.fnOf "_touches" "Web._touches" (defArgs s_Web_touches) (defBody s_Web_touches) (defScope s_Web_touches) .none kV_Web_touches dc_Web_touches pm_Web_touches an_Web_touches cd_Web_touches ct_Web_touches), sl_Web_touches⟩)
    (cdi_Web_touches : PySem.W.codeIn K cd_Web_touches "Web._touches" = true)
    (k_Web_touches : PySem.W.keepIn K (.ref f_Web_touches) = true)
    (z_abs : PySem.W.nsIn K mainGlobals "abs" = some none)
    (z_len : PySem.W.nsIn K mainGlobals "len" = some none)
    (z_isinstance : PySem.W.nsIn K mainGlobals "isinstance" = some none)
    (z_int : PySem.W.nsIn K mainGlobals "int" = some none)
    (z_bool : PySem.W.nsIn K mainGlobals "bool" = some none)
    (z_tuple : PySem.W.nsIn K mainGlobals "tuple" = some none)
    (z_list : PySem.W.nsIn K mainGlobals "list" = some none)
    (z_range : PySem.W.nsIn K mainGlobals "range" = some none)
    (z_any : PySem.W.nsIn K mainGlobals "any" = some none)
    (z_all : PySem.W.nsIn K mainGlobals "all" = some none)
    (z_zip : PySem.W.nsIn K mainGlobals "zip" = some none)
    (z_enumerate : PySem.W.nsIn K mainGlobals "enumerate" = some none)
    (z_sorted : PySem.W.nsIn K mainGlobals "sorted" = some none)
    (z_repr : PySem.W.nsIn K mainGlobals "repr" = some none)
    (z_min : PySem.W.nsIn K mainGlobals "min" = some none)
    {t_FEWEST : Tok} (z_FEWEST : PySem.W.nsIn K mainGlobals "FEWEST" = some (some (.int 2 t_FEWEST)))
    {t_MOST : Tok} (z_MOST : PySem.W.nsIn K mainGlobals "MOST" = some (some (.int 10 t_MOST)))
    (a_law : PySem.W.nsIn K mainGlobals "law" = some (some (.ref f_law)))
    (l_law : K.lookup f_law = some ⟨oc_law, od_law, .func (PySem.W.fnOf "law" "law" (defArgs s_law) (defBody s_law) (defScope s_law) .none kV_law dc_law pm_law an_law cd_law ct_law), sl_law⟩)
    (cdi_law : PySem.W.codeIn K cd_law "law" = true)
    (k_law : PySem.W.keepIn K (.ref f_law) = true)
    : ∃ fd : FuncData, (∀ (s : Shared) (v : Value), BindsTo s fd ⟨[v], []⟩ [("_law_script", v)]) ∧ ∀ base : Heap, K.In base → base.Ns mainGlobals mg → Fn l.prog w K mg base CX0 8 fa fd ["_law_script"] (spLaw K) := by
  have e := hfa.symm.trans (PySem.W.mg_of X G a_law)
  cases e
  have F_number_of := fun_mk (st := s_number_of) l_number_of cdi_number_of k_number_of
  have b_number_of := F_number_of.binds (ps := ["thing"]) fun _ _ _ _ _ _ us hl => match us, hl with | [_], _ => rfl
  have D_number_of : Df K mg "number_of" s_number_of ["thing"] := ⟨_, _, F_number_of, PySem.W.mg_of X G a_number_of, b_number_of⟩
  have F_tuple_of := fun_mk (st := s_tuple_of) l_tuple_of cdi_tuple_of k_tuple_of
  have b_tuple_of := F_tuple_of.binds (ps := ["thing"]) fun _ _ _ _ _ _ us hl => match us, hl with | [_], _ => rfl
  have D_tuple_of : Df K mg "tuple_of" s_tuple_of ["thing"] := ⟨_, _, F_tuple_of, PySem.W.mg_of X G a_tuple_of, b_tuple_of⟩
  have F_list_of := fun_mk (st := s_list_of) l_list_of cdi_list_of k_list_of
  have b_list_of := F_list_of.binds (ps := ["thing"]) fun _ _ _ _ _ _ us hl => match us, hl with | [_], _ => rfl
  have D_list_of : Df K mg "list_of" s_list_of ["thing"] := ⟨_, _, F_list_of, PySem.W.mg_of X G a_list_of, b_list_of⟩
  have F_is_within := fun_mk (st := s_is_within) l_is_within cdi_is_within k_is_within
  have b_is_within := F_is_within.binds (ps := ["thing", "least", "most"]) fun _ _ _ _ _ _ us hl => match us, hl with | [_, _, _], _ => rfl
  have D_is_within : Df K mg "is_within" s_is_within ["thing", "least", "most"] := ⟨_, _, F_is_within, PySem.W.mg_of X G a_is_within, b_is_within⟩
  have F_rises := fun_mk (st := s_rises) l_rises cdi_rises k_rises
  have b_rises := F_rises.binds (ps := ["things"]) fun _ _ _ _ _ _ us hl => match us, hl with | [_], _ => rfl
  have D_rises : Df K mg "rises" s_rises ["things"] := ⟨_, _, F_rises, PySem.W.mg_of X G a_rises, b_rises⟩
  have F_pair_of := fun_mk (st := s_pair_of) l_pair_of cdi_pair_of k_pair_of
  have b_pair_of := F_pair_of.binds (ps := ["many", "thing"]) fun _ _ _ _ _ _ us hl => match us, hl with | [_, _], _ => rfl
  have D_pair_of : Df K mg "pair_of" s_pair_of ["many", "thing"] := ⟨_, _, F_pair_of, PySem.W.mg_of X G a_pair_of, b_pair_of⟩
  have F_pairs_of := fun_mk (st := s_pairs_of) l_pairs_of cdi_pairs_of k_pairs_of
  have b_pairs_of := F_pairs_of.binds (ps := ["many", "thing"]) fun _ _ _ _ _ _ us hl => match us, hl with | [_, _], _ => rfl
  have D_pairs_of : Df K mg "pairs_of" s_pairs_of ["many", "thing"] := ⟨_, _, F_pairs_of, PySem.W.mg_of X G a_pairs_of, b_pairs_of⟩
  have F_near_lists := fun_mk (st := s_near_lists) l_near_lists cdi_near_lists k_near_lists
  have b_near_lists := F_near_lists.binds (ps := ["many", "pairs"]) fun _ _ _ _ _ _ us hl => match us, hl with | [_, _], _ => rfl
  have D_near_lists : Df K mg "near_lists" s_near_lists ["many", "pairs"] := ⟨_, _, F_near_lists, PySem.W.mg_of X G a_near_lists, b_near_lists⟩
  have F_road_holds := fun_mk (st := s_road_holds) l_road_holds cdi_road_holds k_road_holds
  have b_road_holds := F_road_holds.binds (ps := ["web", "living", "place", "road"]) fun _ _ _ _ _ _ us hl => match us, hl with | [_, _, _, _], _ => rfl
  have D_road_holds : Df K mg "road_holds" s_road_holds ["web", "living", "place", "road"] := ⟨_, _, F_road_holds, PySem.W.mg_of X G a_road_holds, b_road_holds⟩
  have F_cut_holds := fun_mk (st := s_cut_holds) l_cut_holds cdi_cut_holds k_cut_holds
  have b_cut_holds := F_cut_holds.binds (ps := ["web", "living", "cut"]) fun _ _ _ _ _ _ us hl => match us, hl with | [_, _, _], _ => rfl
  have D_cut_holds : Df K mg "cut_holds" s_cut_holds ["web", "living", "cut"] := ⟨_, _, F_cut_holds, PySem.W.mg_of X G a_cut_holds, b_cut_holds⟩
  have F_bag := fun_mk (st := s_bag) l_bag cdi_bag k_bag
  have b_bag := F_bag.binds (ps := ["_law_script"]) fun _ _ _ _ _ _ us hl => match us, hl with | [_], _ => rfl
  have D_bag : Df K mg "_law_bag" s_bag ["_law_script"] := ⟨_, _, F_bag, PySem.W.mg_of X G a_bag, b_bag⟩
  have F_take := fun_mk (st := s_take) l_take cdi_take k_take
  have b_take := F_take.binds (ps := ["_law_bag_here", "_law_many"]) fun _ _ _ _ _ _ us hl => match us, hl with | [_, _], _ => rfl
  have D_take : Df K mg "_law_take" s_take ["_law_bag_here", "_law_many"] := ⟨_, _, F_take, PySem.W.mg_of X G a_take, b_take⟩
  have F_web := fun_mk (st := s_web) l_web cdi_web k_web
  have b_web := F_web.binds (ps := ["_law_bag_here", "_law_most"]) fun _ _ _ _ _ _ us hl => match us, hl with | [_, _], _ => rfl
  have D_web : Df K mg "_law_web" s_web ["_law_bag_here", "_law_most"] := ⟨_, _, F_web, PySem.W.mg_of X G a_web, b_web⟩
  have F_near := fun_mk (st := s_near) l_near cdi_near k_near
  have b_near := F_near.binds (ps := ["_law_many", "_law_pairs"]) fun _ _ _ _ _ _ us hl => match us, hl with | [_, _], _ => rfl
  have D_near : Df K mg "_law_near" s_near ["_law_many", "_law_pairs"] := ⟨_, _, F_near, PySem.W.mg_of X G a_near, b_near⟩
  have F_alike := fun_mk (st := s_alike) l_alike cdi_alike k_alike
  have b_alike := F_alike.binds (ps := ["_law_found", "_law_due"]) fun _ _ _ _ _ _ us hl => match us, hl with | [_, _], _ => rfl
  have D_alike : Df K mg "_law_alike" s_alike ["_law_found", "_law_due"] := ⟨_, _, F_alike, PySem.W.mg_of X G a_alike, b_alike⟩
  have F_living := fun_mk (st := s_living) l_living cdi_living k_living
  have b_living := F_living.binds (ps := ["_law_bag_here", "_law_many"]) fun _ _ _ _ _ _ us hl => match us, hl with | [_, _], _ => rfl
  have D_living : Df K mg "_law_living" s_living ["_law_bag_here", "_law_many"] := ⟨_, _, F_living, PySem.W.mg_of X G a_living, b_living⟩
  have F_fair := fun_mk (st := s_fair) l_fair cdi_fair k_fair
  have b_fair := F_fair.binds (ps := ["_law_near_here", "_law_living_here", "_law_far"]) fun _ _ _ _ _ _ us hl => match us, hl with | [_, _, _], _ => rfl
  have D_fair : Df K mg "_law_fair" s_fair ["_law_near_here", "_law_living_here", "_law_far"] := ⟨_, _, F_fair, PySem.W.mg_of X G a_fair, b_fair⟩
  have F_reached := fun_mk (st := s_reached) l_reached cdi_reached k_reached
  have b_reached := F_reached.binds (ps := ["_law_near_here", "_law_living_here"]) fun _ _ _ _ _ _ us hl => match us, hl with | [_, _], _ => rfl
  have D_reached : Df K mg "_law_reached" s_reached ["_law_near_here", "_law_living_here"] := ⟨_, _, F_reached, PySem.W.mg_of X G a_reached, b_reached⟩
  have F_road := fun_mk (st := s_road) l_road cdi_road k_road
  have b_road := F_road.binds (ps := ["_law_near_here", "_law_far", "_law_place"]) fun _ _ _ _ _ _ us hl => match us, hl with | [_, _, _], _ => rfl
  have D_road : Df K mg "_law_road" s_road ["_law_near_here", "_law_far", "_law_place"] := ⟨_, _, F_road, PySem.W.mg_of X G a_road, b_road⟩
  have F_closed := fun_mk (st := s_closed) l_closed cdi_closed k_closed
  have b_closed := F_closed.binds (ps := ["_law_near_here", "_law_living_here", "_law_first"]) fun _ _ _ _ _ _ us hl => match us, hl with | [_, _, _], _ => rfl
  have D_closed : Df K mg "_law_closed" s_closed ["_law_near_here", "_law_living_here", "_law_first"] := ⟨_, _, F_closed, PySem.W.mg_of X G a_closed, b_closed⟩
  have F_cuts_right := fun_mk (st := s_cuts_right) l_cuts_right cdi_cuts_right k_cuts_right
  have b_cuts_right := F_cuts_right.binds (ps := ["_law_bag_here", "_law_web_here", "_law_near_here", "_law_living_here", "_law_cut"]) fun _ _ _ _ _ _ us hl => match us, hl with | [_, _, _, _, _], _ => rfl
  have D_cuts_right : Df K mg "_law_cuts_right" s_cuts_right ["_law_bag_here", "_law_web_here", "_law_near_here", "_law_living_here", "_law_cut"] := ⟨_, _, F_cuts_right, PySem.W.mg_of X G a_cuts_right, b_cuts_right⟩
  have F_again := fun_mk (st := s_again) l_again cdi_again k_again
  have b_again := F_again.binds (ps := ["_law_bag_here", "_law_web_here", "_law_near_here", "_law_handed"]) fun _ _ _ _ _ _ us hl => match us, hl with | [_, _, _, _], _ => rfl
  have D_again : Df K mg "_law_again" s_again ["_law_bag_here", "_law_web_here", "_law_near_here", "_law_handed"] := ⟨_, _, F_again, PySem.W.mg_of X G a_again, b_again⟩
  have cl_C : Cls K C := ⟨pg_C, hd_C, po_C, sa_C⟩
  have M_C : ∀ f, Meth K C "__init__" f → Mk K C f := fun f me => ⟨mk_C, me.at_, me.fn, kc_C⟩
  have F_Web__init := fun_mk (st := s_Web__init) l_Web__init cdi_Web__init k_Web__init
  have b_Web__init := F_Web__init.binds (ps := ["self", "many", "pairs"]) fun _ _ _ _ _ _ us hl => match us, hl with | [_, _, _], _ => rfl
  have D_Web__init : Md K C "__init__" "Web.__init__" s_Web__init ["self", "many", "pairs"] := ⟨_, _, F_Web__init, ⟨a_Web__init, i_Web__init, k_Web__init⟩, b_Web__init⟩
  have F_Web_neighbours := fun_mk (st := s_Web_neighbours) l_Web_neighbours cdi_Web_neighbours k_Web_neighbours
  have b_Web_neighbours := F_Web_neighbours.binds (ps := ["self", "place"]) fun _ _ _ _ _ _ us hl => match us, hl with | [_, _], _ => rfl
  have D_Web_neighbours : Md K C "neighbours" "Web.neighbours" s_Web_neighbours ["self", "place"] := ⟨_, _, F_Web_neighbours, ⟨a_Web_neighbours, i_Web_neighbours, k_Web_neighbours⟩, b_Web_neighbours⟩
  have F_Web_distances := fun_mk (st := s_Web_distances) l_Web_distances cdi_Web_distances k_Web_distances
  have b_Web_distances := F_Web_distances.binds (ps := ["self", "living"]) fun _ _ _ _ _ _ us hl => match us, hl with | [_, _], _ => rfl
  have D_Web_distances : Md K C "distances" "Web.distances" s_Web_distances ["self", "living"] := ⟨_, _, F_Web_distances, ⟨a_Web_distances, i_Web_distances, k_Web_distances⟩, b_Web_distances⟩
  have F_Web_cut := fun_mk (st := s_Web_cut) l_Web_cut cdi_Web_cut k_Web_cut
  have b_Web_cut := F_Web_cut.binds (ps := ["self", "living"]) fun _ _ _ _ _ _ us hl => match us, hl with | [_, _], _ => rfl
  have D_Web_cut : Md K C "cut" "Web.cut" s_Web_cut ["self", "living"] := ⟨_, _, F_Web_cut, ⟨a_Web_cut, i_Web_cut, k_Web_cut⟩, b_Web_cut⟩
  have F_Web_known := fun_mk (st := s_Web_known) l_Web_known cdi_Web_known k_Web_known
  have b_Web_known := F_Web_known.binds (ps := ["self", "thing", "at"]) fun _ _ _ _ _ _ us hl => match us, hl with | [_, _, _], _ => rfl
  have D_Web_known : Md K C "_known" "Web._known" s_Web_known ["self", "thing", "at"] := ⟨_, _, F_Web_known, ⟨a_Web_known, i_Web_known, k_Web_known⟩, b_Web_known⟩
  have F_Web_touches := fun_mk (st := s_Web_touches) l_Web_touches cdi_Web_touches k_Web_touches
  have b_Web_touches := F_Web_touches.binds (ps := ["self", "place", "places"]) fun _ _ _ _ _ _ us hl => match us, hl with | [_, _, _], _ => rfl
  have D_Web_touches : Md K C "_touches" "Web._touches" s_Web_touches ["self", "place", "places"] := ⟨_, _, F_Web_touches, ⟨a_Web_touches, i_Web_touches, k_Web_touches⟩, b_Web_touches⟩
  have y_abs : mg "abs" = none := PySem.W.mg_none_of X G z_abs
  have y_len : mg "len" = none := PySem.W.mg_none_of X G z_len
  have y_isinstance : mg "isinstance" = none := PySem.W.mg_none_of X G z_isinstance
  have y_int : mg "int" = none := PySem.W.mg_none_of X G z_int
  have y_bool : mg "bool" = none := PySem.W.mg_none_of X G z_bool
  have y_tuple : mg "tuple" = none := PySem.W.mg_none_of X G z_tuple
  have y_list : mg "list" = none := PySem.W.mg_none_of X G z_list
  have y_range : mg "range" = none := PySem.W.mg_none_of X G z_range
  have y_any : mg "any" = none := PySem.W.mg_none_of X G z_any
  have y_all : mg "all" = none := PySem.W.mg_none_of X G z_all
  have y_zip : mg "zip" = none := PySem.W.mg_none_of X G z_zip
  have y_enumerate : mg "enumerate" = none := PySem.W.mg_none_of X G z_enumerate
  have y_sorted : mg "sorted" = none := PySem.W.mg_none_of X G z_sorted
  have y_repr : mg "repr" = none := PySem.W.mg_none_of X G z_repr
  have y_min : mg "min" = none := PySem.W.mg_none_of X G z_min
  have y_FEWEST : ∃ u, mg "FEWEST" = some u ∧ RelV (.int 2) u := ⟨_, PySem.W.mg_of X G z_FEWEST, _, rfl⟩
  have y_MOST : ∃ u, mg "MOST" = some u ∧ RelV (.int 10) u := ⟨_, PySem.W.mg_of X G z_MOST, _, rfl⟩
  refine ⟨PySem.W.fnOf "law" "law" (defArgs s_law) (defBody s_law) (defScope s_law) .none kV_law dc_law pm_law an_law cd_law ct_law, fun s v => .of_eq rfl, fun base _ _ => ?_⟩
  have F_law := fun_mk (st := s_law) l_law cdi_law k_law
  have T : Txt K mg := ⟨y_abs, y_len⟩
  have TB : TxtB K mg := ⟨y_isinstance, y_int, y_bool, y_tuple, y_list, y_range, y_any, y_all, y_zip, y_enumerate, y_len⟩
  have TF : TxtF K mg C := ⟨cl_C, n_C_many, n_C_pairs, n_C_near, y_FEWEST, y_MOST, y_range, y_any, y_list⟩
  have TH : TxtH K mg := ⟨y_abs, y_range, y_sorted⟩
  have TS : TxtS K mg := ⟨y_repr⟩
  have TT : TxtT K mg := ⟨y_len, y_range, y_min⟩
  have TY : TxtY mg := ⟨y_len, y_range, y_list⟩
  have TZ : TxtZ mg := ⟨y_len, y_range, y_list⟩
  have h_take := c_take (P := l.prog) (w := w) (base := base) D_take T
  have h_number := c_number_of (P := l.prog) (w := w) (base := base) D_number_of TB
  have h_within := c_is_within D_is_within TB h_number
  have h_tuple := c_tuple_of (P := l.prog) (w := w) (base := base) D_tuple_of TB
  have h_list := c_list_of (P := l.prog) (w := w) (base := base) D_list_of TB
  have h_rises := c_rises (P := l.prog) (w := w) (base := base) D_rises TB
  have h_risesN := c_risesN (P := l.prog) (w := w) (base := base) D_rises TB
  have h_pair := c_pair_of D_pair_of TB h_tuple h_number h_within
  have h_pairs := c_pairs_of D_pairs_of TB h_list h_pair h_rises
  have h_nears := c_near_lists (P := l.prog) (w := w) (base := base) D_near_lists TB
  have h_Web := c_Web D_Web__init (PySem.W.mg_of X G aC_C) M_C TF h_number h_within h_pairs h_nears
  have h_known := c_known D_Web_known TF h_number h_within
  have h_nb := c_neighbours D_Web_neighbours TF h_known
  have h_touches := c_touches (P := l.prog) (w := w) (base := base) D_Web_touches TF
  have h_dist := c_distances D_Web_distances TF h_number h_touches
  have h_cut := c_cut D_Web_cut TF h_number h_dist
  have h_cuth := c_cut_holds D_cut_holds TB h_list h_number h_risesN h_nb
  have h_roadh := c_road_holds D_road_holds TB h_list h_number h_nb
  have h_bag := c_bag (P := l.prog) (w := w) (base := base) D_bag TH
  have h_web := c_web D_web TH h_take
  have h_near := c_near (P := l.prog) (w := w) (base := base) D_near TH
  have h_living := c_living D_living TB h_take
  have h_alike := c_alike (P := l.prog) (w := w) (base := base) D_alike TS
  have h_fair := c_fair D_fair TT h_alike
  have h_reached := c_reached (P := l.prog) (w := w) (base := base) D_reached TT
  have h_road := c_road (P := l.prog) (w := w) (base := base) D_road
  have h_closed := c_closed (P := l.prog) (w := w) (base := base) D_closed TT
  have h_cr := c_cuts_right D_cuts_right TT h_cuth h_closed h_take
  have h_again := c_again D_again TY h_living h_dist h_cut h_reached h_fair h_alike
  exact f_law F_law TZ h_bag h_web h_near h_living h_Web h_take h_dist h_cut h_reached h_fair h_road h_roadh h_alike h_cr h_again
end K15
open PySem PySem.W PyProof.Rows in
set_option maxRecDepth 100000 in
set_option maxHeartbeats 0 in
theorem PySem.Challenge.cw_listenfield_k15_whole_roads_and_cuts_holds : PySem.Challenge.rw_listenfield_k15_whole_roads_and_cuts.Holds := by
  w_on; o_law; k_head; (case hw => w_witness2)
  k_fill
  refine Lf.walkG (l := PySem.Challenge.rw_listenfield_k15_whole_roads_and_cuts) (k := 8) (x := "_law_script") (sp := fun w => K15.spLaw _) rfl rfl ⟨rfl, by decide, by decide⟩ (fun w h Y => PySem.W.kIn_of Y) ?F (fun _ _ a ns hl _ hS => ⟨a, ns, rfl, hS, hl, fun _ => rfl⟩)
  case F =>
    intro w mg fa h KX G hmg
    refine' K15.all_mk KX G hmg ?a_number_of ?l_number_of ?cdi_number_of ?k_number_of ?a_tuple_of ?l_tuple_of ?cdi_tuple_of ?k_tuple_of ?a_list_of ?l_list_of ?cdi_list_of ?k_list_of ?a_is_within ?l_is_within ?cdi_is_within ?k_is_within ?a_rises ?l_rises ?cdi_rises ?k_rises ?a_pair_of ?l_pair_of ?cdi_pair_of ?k_pair_of ?a_pairs_of ?l_pairs_of ?cdi_pairs_of ?k_pairs_of ?a_near_lists ?l_near_lists ?cdi_near_lists ?k_near_lists ?a_road_holds ?l_road_holds ?cdi_road_holds ?k_road_holds ?a_cut_holds ?l_cut_holds ?cdi_cut_holds ?k_cut_holds ?a_bag ?l_bag ?cdi_bag ?k_bag ?a_take ?l_take ?cdi_take ?k_take ?a_web ?l_web ?cdi_web ?k_web ?a_near ?l_near ?cdi_near ?k_near ?a_alike ?l_alike ?cdi_alike ?k_alike ?a_living ?l_living ?cdi_living ?k_living ?a_fair ?l_fair ?cdi_fair ?k_fair ?a_reached ?l_reached ?cdi_reached ?k_reached ?a_road ?l_road ?cdi_road ?k_road ?a_closed ?l_closed ?cdi_closed ?k_closed ?a_cuts_right ?l_cuts_right ?cdi_cuts_right ?k_cuts_right ?a_again ?l_again ?cdi_again ?k_again ?aC_C ?pg_C ?hd_C ?po_C ?sa_C ?mk_C ?kc_C ?n_C_many ?n_C_pairs ?n_C_near ?a_Web__init ?i_Web__init ?l_Web__init ?cdi_Web__init ?k_Web__init ?a_Web_neighbours ?i_Web_neighbours ?l_Web_neighbours ?cdi_Web_neighbours ?k_Web_neighbours ?a_Web_distances ?i_Web_distances ?l_Web_distances ?cdi_Web_distances ?k_Web_distances ?a_Web_cut ?i_Web_cut ?l_Web_cut ?cdi_Web_cut ?k_Web_cut ?a_Web_known ?i_Web_known ?l_Web_known ?cdi_Web_known ?k_Web_known ?a_Web_touches ?i_Web_touches ?l_Web_touches ?cdi_Web_touches ?k_Web_touches ?z_abs ?z_len ?z_isinstance ?z_int ?z_bool ?z_tuple ?z_list ?z_range ?z_any ?z_all ?z_zip ?z_enumerate ?z_sorted ?z_repr ?z_min ?z_FEWEST ?z_MOST ?a_law ?l_law ?cdi_law ?k_law
    (case a_number_of => k_is)
    (case l_number_of => k_is)
    (case cdi_number_of => k_is)
    (case k_number_of => k_is)
    (case a_tuple_of => k_is)
    (case l_tuple_of => k_is)
    (case cdi_tuple_of => k_is)
    (case k_tuple_of => k_is)
    (case a_list_of => k_is)
    (case l_list_of => k_is)
    (case cdi_list_of => k_is)
    (case k_list_of => k_is)
    (case a_is_within => k_is)
    (case l_is_within => k_is)
    (case cdi_is_within => k_is)
    (case k_is_within => k_is)
    (case a_rises => k_is)
    (case l_rises => k_is)
    (case cdi_rises => k_is)
    (case k_rises => k_is)
    (case a_pair_of => k_is)
    (case l_pair_of => k_is)
    (case cdi_pair_of => k_is)
    (case k_pair_of => k_is)
    (case a_pairs_of => k_is)
    (case l_pairs_of => k_is)
    (case cdi_pairs_of => k_is)
    (case k_pairs_of => k_is)
    (case a_near_lists => k_is)
    (case l_near_lists => k_is)
    (case cdi_near_lists => k_is)
    (case k_near_lists => k_is)
    (case a_road_holds => k_is)
    (case l_road_holds => k_is)
    (case cdi_road_holds => k_is)
    (case k_road_holds => k_is)
    (case a_cut_holds => k_is)
    (case l_cut_holds => k_is)
    (case cdi_cut_holds => k_is)
    (case k_cut_holds => k_is)
    (case a_bag => k_is)
    (case l_bag => k_is)
    (case cdi_bag => k_is)
    (case k_bag => k_is)
    (case a_take => k_is)
    (case l_take => k_is)
    (case cdi_take => k_is)
    (case k_take => k_is)
    (case a_web => k_is)
    (case l_web => k_is)
    (case cdi_web => k_is)
    (case k_web => k_is)
    (case a_near => k_is)
    (case l_near => k_is)
    (case cdi_near => k_is)
    (case k_near => k_is)
    (case a_alike => k_is)
    (case l_alike => k_is)
    (case cdi_alike => k_is)
    (case k_alike => k_is)
    (case a_living => k_is)
    (case l_living => k_is)
    (case cdi_living => k_is)
    (case k_living => k_is)
    (case a_fair => k_is)
    (case l_fair => k_is)
    (case cdi_fair => k_is)
    (case k_fair => k_is)
    (case a_reached => k_is)
    (case l_reached => k_is)
    (case cdi_reached => k_is)
    (case k_reached => k_is)
    (case a_road => k_is)
    (case l_road => k_is)
    (case cdi_road => k_is)
    (case k_road => k_is)
    (case a_closed => k_is)
    (case l_closed => k_is)
    (case cdi_closed => k_is)
    (case k_closed => k_is)
    (case a_cuts_right => k_is)
    (case l_cuts_right => k_is)
    (case cdi_cuts_right => k_is)
    (case k_cuts_right => k_is)
    (case a_again => k_is)
    (case l_again => k_is)
    (case cdi_again => k_is)
    (case k_again => k_is)
    (case aC_C => k_is)
    (case pg_C => k_is)
    (case hd_C => k_is)
    (case po_C => k_is)
    (case sa_C => k_is)
    (case mk_C => k_is)
    (case kc_C => k_is)
    (case n_C_many => k_is)
    (case n_C_pairs => k_is)
    (case n_C_near => k_is)
    (case a_Web__init => k_is)
    (case i_Web__init => k_is)
    (case l_Web__init => k_is)
    (case cdi_Web__init => k_is)
    (case k_Web__init => k_is)
    (case a_Web_neighbours => k_is)
    (case i_Web_neighbours => k_is)
    (case l_Web_neighbours => k_is)
    (case cdi_Web_neighbours => k_is)
    (case k_Web_neighbours => k_is)
    (case a_Web_distances => k_is)
    (case i_Web_distances => k_is)
    (case l_Web_distances => k_is)
    (case cdi_Web_distances => k_is)
    (case k_Web_distances => k_is)
    (case a_Web_cut => k_is)
    (case i_Web_cut => k_is)
    (case l_Web_cut => k_is)
    (case cdi_Web_cut => k_is)
    (case k_Web_cut => k_is)
    (case a_Web_known => k_is)
    (case i_Web_known => k_is)
    (case l_Web_known => k_is)
    (case cdi_Web_known => k_is)
    (case k_Web_known => k_is)
    (case a_Web_touches => k_is)
    (case i_Web_touches => k_is)
    (case l_Web_touches => k_is)
    (case cdi_Web_touches => k_is)
    (case k_Web_touches => k_is)
    (case z_abs => k_is)
    (case z_len => k_is)
    (case z_isinstance => k_is)
    (case z_int => k_is)
    (case z_bool => k_is)
    (case z_tuple => k_is)
    (case z_list => k_is)
    (case z_range => k_is)
    (case z_any => k_is)
    (case z_all => k_is)
    (case z_zip => k_is)
    (case z_enumerate => k_is)
    (case z_sorted => k_is)
    (case z_repr => k_is)
    (case z_min => k_is)
    (case z_FEWEST => k_is)
    (case z_MOST => k_is)
    (case a_law => k_is)
    (case l_law => k_is)
    (case cdi_law => k_is)
    (case k_law => k_is)
end
