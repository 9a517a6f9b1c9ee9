import PyProof.Rows.All
import Wide.All
import OpenK.AllK
import Wide.FinOn
import PyProof.ReprRoads
import HandS.ForMost
import HandS.ForExc
import HandS.Evl
import HandS.Wide
import HandS.Conv
import HandS.More
import HandS.WideBits
import HandS.ExcInit
import HandS.ExcField
import HandS.IsInst
import KE.KDictPairs
import KE.GoesMore
import HandS.TupMul
import HandS.TupAny
import HandS.Property
import HandS.MakeKwOnly
import HandS.TryOnly
import HandS.Zip
import HandS.SlotsOwn
import PyProof.InstNe
import HandS.ExcIs
import HandS.ExcOwn
import PySem.Challenge.RW_refusedahead_k41_planners_told
set_option Elab.async false
set_option linter.all false
set_option maxRecDepth 100000
set_option maxHeartbeats 2000000
/-! Calls made while no repr is under way (needed for repr); repr and == of data; wide division. -/
namespace Gx
open PySem PySem.Spec PyProof.Rows L2
abbrev Quiet (A : Around) : Prop := A.guards = some []
structure FnQ (P : Program) (w : World) (K : PySem.W.Frag) (mg : Str → Option Value)
    (base : Heap) (CX : CXT) (k : Nat) (f : Addr) (fd : FuncData) (ps : List Str) (sp : Sp) : Prop where
  argc : ∀ vs H Q E, sp vs H Q E → vs.length = ps.length
  goes : ∀ (A : Around) (outer : List Env) (s : Shared) (H : Hp) (args : Args) (us : List Value)
    (vs : List V) (Q : VK) (E : XK), Room k A → Quiet A → Env0 P w K mg base A outer s H →
    BindsTo s fd args (ps.zip us) → Vals vs us → sp vs H Q E →
    codeAny (model P w) A (.call (.ref f) args) (CR CX outer P w H s Q E) s
section
variable {P : Program} {w : World} {K : PySem.W.Frag} {mg : Str → Option Value} {base : Heap} {CX : CXT}
/-- a def whose promise holds at any call holds it at a quiet one -/
theorem FnQ.of {k : Nat} {f : Addr} {fd : FuncData} {ps : List Str} {sp : Sp}
    (G : FnOk P w K mg base CX k f fd ps sp) : FnQ P w K mg base CX k f fd ps sp :=
  ⟨G.len, fun A o s H ar us vs Q E r _ => G.run A o s H ar us vs Q E r⟩
theorem FnQ.mono {j k : Nat} {f : Addr} {fd : FuncData} {ps : List Str} {sp : Sp}
    (G : FnQ P w K mg base CX j f fd ps sp) (h : j ≤ k) : FnQ P w K mg base CX k f fd ps sp :=
  ⟨G.argc, fun A o s H ar us vs Q E r => G.goes A o s H ar us vs Q E (r.mono h)⟩
/-- a def's body, walked at quiet calls alone -/
theorem fnq_of {x qual : Str} {st : Stmt} {f : Addr} {fd : FuncData} {N ps : List Str} {k : Nat} {sp : Sp}
    (F : Fun K x qual st f fd) (S : FnScope N ps (defScope st))
    (len : ∀ vs H Q E, sp vs H Q E → vs.length = ps.length)
    (walk : ∀ (cdv : Value) (A : Around) (outer : List Env) (s : Shared) (H : Hp) (vs : List V) (Q : VK) (E : XK),
      Room k (A.deeper (envOfC qual (defScope st) s.heap.objs.size f cdv)) → Quiet A → sp vs H Q E →
      ∃ t, PSs (cxOf CX P w K mg base N qual (defScope st) f cdv A outer s H E) (defBody st) t ∧
        t { nx := fun _ H' => Q .non H', rt := Q } (start N vs) H) :
    FnQ P w K mg base CX (k + 1) f fd ps sp := by
  obtain ⟨oc, od, kV, doc, pm, an, cdv, ct, osl, rfl, lk, hcd⟩ := F.ex
  refine ⟨len, fun A o s H ar us vs Q E rm qu e0 bd rv hs => ?_⟩
  have argl := len _ _ _ _ hs
  have inK : K.In s.heap := e0.mod.kin.keeps fun b ob z => (e0.bs b ob z).1
  have nolim : s.heap.NoLimit := e0.mod.nolimit.keeps fun b ob z => (e0.bs b ob z).1
  refine codeAny_call_function rm.depth (inK _ _ lk) rfl S.co S.gen rfl
    (PySem.W.codeRec_of inK hcd) (bd _ _ _ _ ?_)
  refine wpAny_newFunctionEnv_cells S.kind (fun y hy => ?_) fun en hen s1 ic => ?_
  · obtain ⟨nm, vl⟩ := y
    rcases S.par nm (List.of_mem_zip hy).1 with loc | cel
    · exact .inl loc
    · exact .inr ⟨cel, PySem.W.cellsFrom_some _ _ _ (.inl cel)⟩
  · subst hen
    refine ⟨nolim.keeps ic.toInCall.keep, codeAny_func ?_⟩
    obtain ⟨t, pt, ht⟩ := walk cdv A o s H vs Q E (rm.deeper _) qu hs
    have I := inv_start (CX := CX) (E := E) S rm.hd e0 argl rv ic
    refine wpAny_mono (pt.run [] s1 (start N vs) H _ I ht) (fun fl s' hq => ?_) fun _ _ hq => hq
    cases fl with
    | brk => obtain ⟨_, _, _, no⟩ := hq; exact no.elim
    | cont => obtain ⟨_, _, _, no⟩ := hq; exact no.elim
    | next => obtain ⟨σ, H', J, q⟩ := hq; exact ⟨.non, H', J.os, J.bare, J.base, J.hok, rfl, q⟩
    | ret u => obtain ⟨v, σ, H', J, r, q⟩ := hq; exact ⟨v, H', J.os, J.bare, J.base, J.hok, r, q⟩
end
section
variable {X : Cx} {CX : CXT} {k : Nat} {f : Addr} {fd : FuncData} {ps : List Str} {sp : Sp} {E : XK}
  {x : Str} {p pos : Pos} {e : Expr} {es : List Expr} {t : TA}
/-- f(..) at a quiet place -/
theorem pe_callQ (G : FnQ X.prog X.w X.K X.mg X.base CX k f fd ps sp) (qu : Quiet X.A) (rm : Room k X.A)
    (hg : Gl X x) (hm : X.mg x = some (.ref f)) (hk : PySem.W.keepIn X.K (.ref f) = true)
    (bd : Binds X.K fd ps []) (pass : Passes CX X E) (ha : PA X (e :: es) t)
    (hdb : (x == ("__debug__" : Str)) = false := by decide)
    (he : starEach (e :: es) X.env = (false, eval e X.env) :: starEach es X.env := by rfl)
    (hpl : (backTo pos (starEach es X.env)).any (·.1) = false := by rfl) :
    PE X (.Call (.Name x p) (e :: es) [] pos) (tCall sp [] E t) := by
  constructor
  intro pins s σ H Q I h
  refine wpAny_Call_Name_kw (ld_glob I hg hm ?_ hdb)
  refine PySem.W.callWith_K (h₀ := X.base) I.ok.mod.kin hk (thn (ha.run pos pins s σ H _ I h) ?_) he hpl
  rintro us s1 ⟨vs, H1, I1, rv, q⟩
  refine ⟨I1.kIn, wpAny_call (codeAny_mono (G.goes X.A X.stack s1 H1 ⟨us, []⟩ us vs Q E rm qu I1.env0 ?_ rv ?_) ?_)⟩
  · have b := bd s1 us I1.kIn (by rw [List.append_nil, ← rv.length, ← List.append_nil vs]; exact G.argc _ _ _ _ q)
    rwa [List.append_nil] at b
  · rwa [List.append_nil] at q
  · intro r s' hq
    match r, hq with
    | .error z, hq => exact pass pins σ H1 s1 z s' I1 hq
    | .ok (.ret u), hq => exact I1.after hq
end
end Gx

set_option Elab.async false
set_option linter.all false
set_option maxRecDepth 100000
set_option maxHeartbeats 2000000
namespace Gx
open PySem PySem.Spec PyProof.Rows L2
/-- the law's call from outside: nothing is tracked but the script, where that is no object of the module -/
theorem law_goes {P : Program} {w : World} {K : PySem.W.Frag} {mg mb : Str → Option Value} {CX : CXT} {k : Nat}
    {fa a : Addr} {fd : FuncData} {x : Str} {sp : Sp} {z : Shared} {vs : List Value} {ns : List Int}
    (inK : K.In z.heap) (gl : z.heap.Ns mainGlobals mg) (bl : z.heap.Ns builtinsNs mb)
    (bb : ∀ x : Str, x ≠ "__name__" → mb x = bootBuiltins x) (lim : z.heap.NoLimit) (gs : z.gens = #[])
    (ha : z.heap.get? a = some { cls := .type "list", data := .seq vs.toArray }) (hi : IntsAre vs ns)
    (hl : ns.length ≤ sizeLine) (rm : Room k callerA)
    (G : ∀ base : Heap, K.In base → base.Ns mainGlobals mg → FnQ P w K mg base CX k fa fd [x] sp)
    (bd : ∀ (s : Shared) (u : Value), BindsTo s fd ⟨[u], []⟩ [(x, u)])
    (hsp : ∀ H : Hp, Only H → SqL K H a (ns.map V.int) → sp [.ref a] H (fun v _ => v = .bl true) fun _ _ _ => False)
    (no : ∀ H e s', CX [] H z (fun _ _ _ => False) e s' → False) :
    codeAny (model P w) callerA (.call (.ref fa) ⟨[.ref a], []⟩)
      (fun r s' => r = .ok (.ret (.bool true)) ∧ OldK z.heap s'.heap ∧ s'.os = z.os ∧ AllBare s'.gens) z := by
  have rv := vals_ints hi
  have go : ∀ H : Hp, Only H → SqL K H a (ns.map V.int) → HOk P w H z.heap →
      (∀ b u, H b = some u → b = a ∧ K.lookup a = none) →
      codeAny (model P w) callerA (.call (.ref fa) ⟨[.ref a], []⟩)
        (fun r s' => r = .ok (.ret (.bool true)) ∧ OldK z.heap s'.heap ∧ s'.os = z.os ∧ AllBare s'.gens) z := by
    intro H on sq ok at_
    -- a namespace is no list: it is not tracked
    have free : ∀ (b : Addr) (o : Obj), z.heap.get? b = some o → (∀ u n, o.data ≠ .seq u n) → H b = none := by
      intro b o e d
      rcases hb : H b with _ | u
      · rfl
      · obtain ⟨rfl, _⟩ := at_ b u hb
        rw [ha] at e
        cases e
        exact absurd rfl (d _ _)
    have ns_ : ∀ (b : Addr) (m : Str → Option Value), z.heap.Ns b m → (hidT z.heap H).Ns b m := by
      rintro b m ⟨o, es, ep, e, d, r⟩
      exact ⟨o, es, ep, hidT_get e (free b o e fun u n q => by rw [d] at q; cases q), d, r⟩
    have kin : K.In (hidT z.heap H) := by
      intro b o e
      refine hidT_get (inK b o e) ?_
      rcases hb : H b with _ | u
      · rfl
      · obtain ⟨rfl, q⟩ := at_ b u hb
        rw [q] at e
        cases e
    obtain ⟨mc, l1, l2⟩ := lim
    have md : Mod K mg (hidT z.heap H) := ⟨kin, ns_ _ _ gl, ⟨mb, ns_ _ _ bl, bb⟩, ⟨mc, ns_ _ _ l1, l2⟩⟩
    have e0 : Env0 P w K mg (hidT z.heap H) callerA [] z H :=
      ⟨rfl, md, fun _ _ => of_hidT, Nat.le_of_eq (hidT_size _ _), trivial, (fun b (hb : b ∈ ([] : List Addr)) => (List.not_mem_nil hb).elim), ok, .of_eq gs⟩
    refine codeAny_mono ((G _ kin (ns_ _ _ gl)).goes callerA [] z H ⟨[.ref a], []⟩ [.ref a] [.ref a] _ _
      rm rfl e0 (bd z (.ref a)) (.cons rfl .nil) (hsp H on sq)) ?_
    intro r s' h
    match r, h with
    | .error e, h => exact (no H e s' h).elim
    | .ok (.ret u), h =>
      obtain ⟨v, H', os, bare, un, ok', r', q⟩ := h
      subst q
      obtain rfl : u = Value.bool true := r'
      refine ⟨rfl, OldK.of_keep fun b o e => ?_, os, bare⟩
      rcases hb : H b with _ | u
      · exact un.keep b o e hb (fun q => by cases q) (fun q => by cases q)
      · rcases on b with q | ⟨ob, xs, q⟩
        · rw [hb] at q; cases q
        · obtain ⟨e1, _⟩ := ok b _ q
          obtain ⟨e2, _⟩ := ok' b _ (un.frzs b ob _ q)
          rw [e] at e1
          cases e1
          exact e2
  rcases hk : K.lookup a with _ | o
  · let H : Hp := fun b => if b = a then some (.frz { cls := .type "list", data := .seq vs.toArray } (.lst (ns.map V.int))) else none
    have Ha : H a = some (.frz { cls := .type "list", data := .seq vs.toArray } (.lst (ns.map V.int))) := if_pos rfl
    have Hn : ∀ b, b ≠ a → H b = none := fun b hb => if_neg hb
    refine go H (fun b => ?_) (.inl (.inr ⟨_, Ha⟩)) (fun b u e => ?_) (fun b u e => ?_)
    · by_cases hb : b = a
      · subst hb; exact .inr ⟨_, _, Ha⟩
      · exact .inl (Hn b hb)
    · by_cases hb : b = a
      · subst hb
        rw [Ha] at e
        cases e
        exact ⟨ha, by rw [List.length_map]; exact hl, vs, _, rv, ha⟩
      · rw [Hn b hb] at e; cases e
    · by_cases hb : b = a
      · exact ⟨hb, hk⟩
      · rw [Hn b hb] at e; cases e
  · have e := inK a o hk
    rw [ha] at e
    cases e
    refine go (fun _ => none) (fun _ => .inl rfl)
      (.inr ⟨_, vs.toArray, _, hk, rfl, rfl, rfl, by rw [List.size_toArray, hi.length]; exact hl, by simpa using rv⟩)
      (fun b u e => by cases e) (fun b u e => by cases e)
theorem walkQ {l : PySem.W.OpenLaw} {n k : Nat} {q : Program} {loose : List Str}
    {XP : (Str → Option Value) → Heap → Prop} {YP : World → Heap → Prop} {d : DefRec}
    {K : Params → PySem.W.Frag} {CX : World → CXT} {sp : World → Sp} {x : Str}
    (hn : l.most = some n) (hn2 : n ≤ sizeLine) (hdf : d.params.defaults = []) (rm : Room k callerA)
    (hY : ∀ (w : World) (h : Heap), YP w h → (K w.params).In h)
    (F : ∀ (w : World) (mg : Str → Option Value) (fa : Addr) (h : Heap), (K w.params).In h →
      h.Ns mainGlobals mg → mg d.name = some (.ref fa) →
      ∃ fd : FuncData, (∀ (s : Shared) (u : Value), BindsTo s fd ⟨[u], []⟩ [(x, u)]) ∧
        ∀ base : Heap, (K w.params).In base → base.Ns mainGlobals mg →
          FnQ l.prog w (K w.params) mg base (CX w) k fa fd [x] (sp w))
    (hsp : ∀ (w : World) (H : Hp) (a : Addr) (ns : List Int), ns.length ≤ n → Only H →
      SqL (K w.params) H a (ns.map V.int) → sp w [.ref a] H (fun v _ => v = .bl true) fun _ _ _ => False)
    (hCX : ∀ (w : World) (H : Hp) (s : Shared) (e : Value) (s' : Shared), CX w [] H s (fun _ _ _ => False) e s' → False) :
    PySem.W.WalkO q loose XP YP l.row.toRowW d [] (fun f vs => PySem.call f vs) := by
  refine Att.attach_call hn hdf ?_
  intro w s₀ z mg mb fa o pm cd doc a vs ns G Y ho hd hcd hmg hobj hints hlen hg
  obtain ⟨fd, hb, hF⟩ := F w mg fa _ (hY w _ Y) G.T.g hmg
  exact law_goes (hY w _ Y) G.T.g G.T.b G.T.builtins G.T.nolimit hg hobj hints (Nat.le_trans hlen hn2) rm hF hb
    (fun H hO hS => hsp w H a ns hlen hO hS) fun H e s' => hCX w H z e s'
end Gx

set_option Elab.async false
set_option linter.all false
set_option maxRecDepth 100000
set_option maxHeartbeats 2000000
namespace Gx
open PySem PySem.Spec PyProof.Rows L2
/-- what a first clause 'except x as n' that takes every exception of the body wishes of it -/
def wFst (K : PySem.W.Frag) (c : Value) (i : Nat) (ts : Addr → Value → Option Addr → TS) (D : Ends) : WX :=
  fun cls d σ H => PySem.W.exmOne K cls c = some true ∧ ∀ a, H a = none →
    ts a cls d ⟨fun σ' H' => D.nx (σ'.set i none) H', D.rt, fun σ' H' => D.bk (σ'.set i none) H',
      fun σ' H' => D.ct (σ'.set i none) H'⟩ (σ.set i (some (.ref a))) H
section
variable {X : Cx} {x n : Str} {c : Value} {i : Nat} {body suite : List Stmt} {b₀ : Stmt} {np pos pos' : Pos}
  {tb : WX → TS} {ts : Addr → Value → Option Addr → TS} {more : List ExceptHandler}
/-- try: body / except x as n: suite / further clauses, which are never looked at -/
theorem ps_try_fst (hs : X.stack = X.env :: X.outer) (hf : X.env.frame = some X.env.locals) (hN : X.N.Nodup)
    (hi : X.N[i]? = some n) (hln : X.env.kindOf n = some .local) (hc : Names X x c)
    (hb : ∀ (W : WX) (pn : List (Addr × Obj)) (xe : Value → Shared → Prop), L2.Takes (X.tr pn xe) W →
      PassesOwn (model X.prog X.w) X.A X.env xe → PSs (X.tr pn xe) body (tb W))
    (hsu : ∀ (a : Addr) (oe : Obj) (cls : Value) (d : Option Addr) (pn : List (Addr × Obj)), Zc cls d oe →
      (∃ vs, oe.data = .fields vs) → PSs (X.suite a ((a, oe) :: pn)) (b₀ :: suite) (ts a cls d)) :
    PS X (.Try body (.ExceptHandler (some (.Name x np)) (some n) (b₀ :: suite) pos' :: more) [] [] pos)
      (fun D σ H => tb (wFst X.K c i ts D) D σ H) := by
  constructor
  intro pins s σ H D I h
  have ok := I.ok
  have frs_ : X.A.frames = some (X.env :: X.outer) := by rw [ok.frames, hs]
  refine wpAny_Try_except ?_
  refine wpAny_mono ((hb (wFst X.K c i ts D) (X.pn ++ pins) _ ?tk PassesOwn.looking).run [] s σ H D (I.toTry _) h) ?_
    fun e s1 he => he
  case tk =>
    rintro u z ⟨a, B, sI, ps, σ1, H1, cls, d, rfl, J', nb, up, sky, na, os, ag, hm, hy⟩
    have J : Inv X pins σ1 H1 sI := J'.ofTry ok
    rw [show (X.tr (X.pn ++ pins) _).stack = X.env :: X.outer from hs] at sky
    show wpAny (model X.prog X.w) X.A (noteFrame (.ref a) X.env) _ _ _
    refine Sky.land Zc.steady frs_ hf sky fun h3 fl up3 => ?_
    have J3 : Inv X pins σ1 H1 { z with heap := h3 } := J.landed nb fl.1 (up.trans up3) os ag
    obtain ⟨oe, vs, he, hz, hd⟩ := fl.there
    -- an exception is no frame
    have nfr : a ∉ frs (X.env :: X.outer) := by
      intro hin
      obtain ⟨_, o', e', hnf⟩ := fl.2.2.1.mem hin
      rw [he] at e'
      cases e'
      exact hnf _ hd
    have nL : a ≠ X.env.locals := fun q => nfr (List.mem_filterMap.mpr ⟨X.env, List.mem_cons_self, by rw [hf, q]⟩)
    have nF : a ∉ X.fs := fun hin => by
      obtain ⟨e, q1, q2⟩ := List.mem_filterMap.mp hin
      exact nfr (List.mem_filterMap.mpr ⟨e, List.mem_cons_of_mem _ q1, q2⟩)
    have S3 := J3.suite he hd na nL nF
    refine wpAny_handleBy_cons (codeAny_handlers_test ?_) (by intro q; cases q)
    have lt : PySem.W.Looks (model X.prog X.w) h3 (typeOf (.ref a)) cls :=
      fun A Q E s k q => wpAny_typeOf_ref (k _ _ he) (by rw [hz.1]; exact q)
    have lm := PySem.W.exm_one (M := model X.prog X.w) J3.kIn lt hm
    have nm : ∀ {Q : Value → Shared → Prop} {E : Value → Shared → Prop}, Q c { z with heap := h3 } →
        wpAny (model X.prog X.w) (X.A.mark (some (.ref a))) (eval (.Name x np) X.env) Q E { z with heap := h3 } := by
      intro Q E q
      rcases hc with ⟨g1, g2, g3 | ⟨g3, g4, g5⟩⟩
      · exact ld_glob (X := X.suite a ((a, oe) :: (X.pn ++ pins))) S3 g1 g3 q g2
      · exact ld_blt (X := X.suite a ((a, oe) :: (X.pn ++ pins))) S3 g1 g3 g4 q g5 g2
    refine nm (lm.here (codeAny_handlers_suite_as ?_))
    refine HandSPX.lands_againZ fl fun h4 fl4 up4 => ?_
    have J4 : Inv X pins σ1 H1 { z with heap := h4 } := J.landed nb fl4.1 ((up.trans up3).trans up4) os ag
    obtain ⟨oe4, vs4, he4, hz4, hd4⟩ := fl4.there
    have S4 := J4.suite he4 hd4 na nL nF
    refine store_ok (X := X.suite a ((a, oe4) :: (X.pn ++ pins))) (v := .ref a) S4 hN hi (.inl hln) rfl ?_ (.inr hln)
    intro s5 S5
    refine wpAny_mono ((hsu a oe4 cls d (X.pn ++ pins) hz4 ⟨_, hd4⟩).run [] s5 _ H1 _ S5 (hy a na)) ?_ fun _ _ q => q.elim
    intro f s6 hsp
    have fin : ∀ {σ6 : L2.St} {H6 : Hp} {Q : Shared → Prop}, Inv (X.suite a ((a, oe4) :: (X.pn ++ pins))) [] σ6 H6 s6 →
        (∀ s7, Inv X pins (σ6.set i none) H6 s7 → Q s7) →
        wpAny (model X.prog X.w) X.A (do bindName X.env n .none; unbindBehindTheSuite X.env n pos')
          (fun _ s7 => Q s7) X.xe s6 := fun S6 q => gone_ok (S6.unsuite ok) hN hi hln q
    match f, hsp with
    | .next, ⟨σ6, H6, S6, q⟩ => exact fin S6 fun s7 J7 => ⟨_, _, J7, q⟩
    | .brk, ⟨σ6, H6, S6, q⟩ => exact fin S6 fun s7 J7 => ⟨_, _, J7, q⟩
    | .cont, ⟨σ6, H6, S6, q⟩ => exact fin S6 fun s7 J7 => ⟨_, _, J7, q⟩
    | .ret u, ⟨v, σ6, H6, S6, r, q⟩ => exact fin S6 fun s7 J7 => ⟨_, _, _, J7, r, q⟩
  · intro f s1 hsp
    match f, hsp with
    | .next, ⟨σ', H', J', q⟩ => exact wpAny_execs_nil ⟨σ', H', J'.ofTry ok, q⟩
    | .brk, ⟨σ', H', J', q⟩ => exact ⟨σ', H', J'.ofTry ok, q⟩
    | .cont, ⟨σ', H', J', q⟩ => exact ⟨σ', H', J'.ofTry ok, q⟩
    | .ret u, ⟨v, σ', H', J', r, q⟩ => exact ⟨v, σ', H', J'.ofTry ok, r, q⟩
end
end Gx

set_option Elab.async false
set_option linter.all false
set_option maxRecDepth 100000
set_option maxHeartbeats 2000000
namespace Gx
open PySem PySem.Spec PyProof.Rows L2 Evl
section
variable {K : PySem.W.Frag} {H H' : Hp}
mutual
theorem dp_ex (e : Ex H H') : ∀ (d : PyData) (v : V), Dp K H v d → Dp K H' v d
  | .none, _, h => by cases h; exact .non
  | .bool b, _, h => by cases h; exact .bl b
  | .int i, _, h => by cases h; exact .int i
  | .str x, _, h => by cases h; exact .str x
  | .list ds, _, h => by
    cases h with
    | lst hs ha => exact .lst (ex_l e hs) (dpAll_ex e ds _ ha)
  | .tuple ds, _, h => by
    cases h with
    | tup hs ha => exact .tup (ex_t e hs) (dpAll_ex e ds _ ha)
  | .dict _, _, h => by cases h
theorem dpAll_ex (e : Ex H H') : ∀ (ds : List PyData) (vs : List V), DpAll K H vs ds → DpAll K H' vs ds
  | [], _, h => by cases h; exact .nil
  | d :: ds, _, h => by
    cases h with
    | cons h1 h2 => exact .cons (dp_ex e d _ h1) (dpAll_ex e ds _ h2)
end
theorem _root_.L2.Dp.to {v : V} {d : PyData} (h : Dp K H v d) (e : Ex H H') : Dp K H' v d := dp_ex e d v h
theorem _root_.L2.DpAll.to {vs : List V} {ds : List PyData} (h : DpAll K H vs ds) (e : Ex H H') : DpAll K H' vs ds := dpAll_ex e ds vs h
theorem _root_.L2.Dp.tup_inv {v : V} {ds : List PyData} (h : Dp K H v (.tuple ds)) : ∃ a xs, v = .ref a ∧ SqT K H a xs ∧ DpAll K H xs ds := by
  cases h with
  | tup hs ha => exact ⟨_, _, rfl, hs, ha⟩
theorem _root_.L2.Dp.lst_inv {v : V} {ds : List PyData} (h : Dp K H v (.list ds)) : ∃ a xs, v = .ref a ∧ SqL K H a xs ∧ DpAll K H xs ds := by
  cases h with
  | lst hs ha => exact ⟨_, _, rfl, hs, ha⟩
theorem _root_.L2.DpAll.len {vs : List V} {ds : List PyData} (h : DpAll K H vs ds) : vs.length = ds.length := by
  induction ds generalizing vs with
  | nil => cases h; rfl
  | cons d ds ih => cases h with | cons h1 h2 => simp [ih h2]
theorem _root_.L2.DpAll.get {vs : List V} {ds : List PyData} (h : DpAll K H vs ds) {i : Nat} {v : V} (e : vs[i]? = some v) : ∃ d, ds[i]? = some d ∧ Dp K H v d := by
  induction ds generalizing vs i with
  | nil => cases h; simp at e
  | cons d ds ih =>
    cases h with
    | cons h1 h2 =>
      cases i with
      | zero => simp at e; subst e; exact ⟨d, by simp, h1⟩
      | succ i => obtain ⟨d', q1, q2⟩ := ih h2 (i := i) (by simpa using e); exact ⟨d', by simpa using q1, q2⟩
theorem _root_.L2.DpAll.get' {vs : List V} {ds : List PyData} (h : DpAll K H vs ds) {i : Nat} {d : PyData} (e : ds[i]? = some d) : ∃ v, vs[i]? = some v ∧ Dp K H v d := by
  have hl := h.len
  have hi : i < ds.length := (List.getElem?_eq_some_iff.mp e).1
  have hv : vs[i]? = some (vs[i]'(by omega)) := List.getElem?_eq_getElem (by omega)
  obtain ⟨d', q1, q2⟩ := h.get hv
  rw [e] at q1; cases q1
  exact ⟨_, hv, q2⟩
theorem _root_.L2.DpAll.two {vs : List V} {a b : PyData} (h : DpAll K H vs [a, b]) : ∃ x y, vs = [x, y] ∧ Dp K H x a ∧ Dp K H y b := by
  cases h with
  | cons h1 h2 => cases h2 with
    | cons h2 h3 => cases h3; exact ⟨_, _, rfl, h1, h2⟩
theorem _root_.L2.DpAll.app {vs ws : List V} {ds es : List PyData} (h : DpAll K H vs ds) (h' : DpAll K H ws es) : DpAll K H (vs ++ ws) (ds ++ es) := by
  induction ds generalizing vs with
  | nil => cases h; exact h'
  | cons d ds ih => cases h with | cons h1 h2 => exact .cons h1 (ih h2)
theorem _root_.L2.DpAll.one {v : V} {d : PyData} (h : Dp K H v d) : DpAll K H [v] [d] := .cons h .nil
theorem _root_.L2.DpAll.take {vs : List V} {ds : List PyData} (n : Nat) (h : DpAll K H vs ds) : DpAll K H (vs.take n) (ds.take n) := by
  induction ds generalizing vs n with
  | nil => cases h; simp; exact .nil
  | cons d ds ih =>
    cases h with
    | cons h1 h2 =>
      cases n with
      | zero => exact .nil
      | succ n => exact .cons h1 (ih n h2)
theorem dpAll_ints : ∀ ns : List Int, DpAll K H (ns.map V.int) (ns.map PyData.int)
  | [] => .nil
  | n :: ns => .cons (.int n) (dpAll_ints ns)
theorem dpAll_ints_inv : ∀ {ns : List Int} {vs : List V}, DpAll K H vs (ns.map PyData.int) → vs = ns.map V.int
  | [], _, h => by cases h; rfl
  | n :: ns, _, h => by
    cases h with
    | cons h1 h2 => cases h1; rw [dpAll_ints_inv h2]; rfl
end
/-- how many signs repr may take -/
def wide : PyData → Nat
  | .none => 4
  | .bool _ => 5
  | .int _ => 1921
  | .str x => (reprText x).length
  | .list xs => wideAll xs + 2
  | .tuple xs => wideAll xs + 3
  | .dict _ => 0
where wideAll : List PyData → Nat
  | [] => 0
  | x :: xs => wide x + 2 + wideAll xs
theorem listText_wide (ts : List Str) : (listText ts).length ≤ piled ts + 2 := by
  unfold listText
  rw [strLen_append]
  have e1 : ((("]" : String) : Str)).length = 1 := rfl
  have e2 : ((("[" : String) : Str)).length = 1 := rfl
  have : ∀ (ts : List Str) (k : Nat) (acc : Str), (textFrom k acc ts).length ≤ acc.length + piled ts := by
    intro ts
    induction ts with
    | nil => intro k acc; simp [textFrom, piled]
    | cons t ts ih =>
      intro k acc
      unfold textFrom
      refine Nat.le_trans (ih _ _) ?_
      rw [piled_cons]
      have e3 : (((", " : String) : Str)).length = 2 := rfl
      have e4 : ((("" : String) : Str)).length = 0 := rfl
      split <;> (simp only [strLen_append]; omega)
  have h := this ts 0 (("[" : String) : Str)
  omega
theorem tupText_wide (ts : List Str) : (tupleText ts).length ≤ piled ts + 3 := by
  have e3 : (((if ts.length == 1 then ",)" else ")" : String) : Str)).length ≤ 2 := by split <;> decide +kernel
  have e1 : ((("(" : String) : Str)).length = 1 := rfl
  unfold tupleText
  rw [strLen_append, strLen_append, e1]
  by_cases h : ts = []
  · subst h
    have : (Str.join ", " ([] : List Str)).length = 0 := rfl
    omega
  · have := join_length_add ts h
    omega
mutual
theorem shown_wide : ∀ d : PyData, d.showable = true → d.hasDict = false → d.shown.length ≤ wide d
  | .none, _, _ => by simp only [PyData.shown, wide]; decide
  | .bool b, _, _ => by cases b <;> (simp only [PyData.shown, wide]; decide)
  | .int i, h, _ => by
    simp only [PyData.shown, wide]
    exact PyProof.Rows.int_text_len_1921 (of_decide_eq_true (by simpa only [PyData.showable] using h))
  | .str x, _, _ => by simp only [PyData.shown, wide]; exact Nat.le_refl _
  | .list xs, h, h' => by
    simp only [PyData.shown, wide]
    have q := shown_wideAll xs (by simpa only [PyData.showable] using h) (by simpa only [PyData.hasDict] using h')
    exact Nat.le_trans (listText_wide _) (by omega)
  | .tuple xs, h, h' => by
    simp only [PyData.shown, wide]
    have q := shown_wideAll xs (by simpa only [PyData.showable] using h) (by simpa only [PyData.hasDict] using h')
    exact Nat.le_trans (tupText_wide _) (by omega)
  | .dict _, _, h' => by simp [PyData.hasDict] at h'
theorem shown_wideAll : ∀ ds : List PyData, PyData.showableAll ds = true → PyData.hasDictAll ds = false → piled (PyData.shownAll ds) ≤ wide.wideAll ds
  | [], _, _ => by simp [PyData.shownAll, piled, wide.wideAll]
  | d :: ds, h, h' => by
    simp only [PyData.showableAll, Bool.and_eq_true] at h
    simp only [PyData.hasDictAll, Bool.or_eq_false_iff] at h'
    have q1 := shown_wide d h.1 h'.1
    have q2 := shown_wideAll ds h.2 h'.2
    simp only [PyData.shownAll, piled_cons, wide.wideAll]
    omega
end
section
variable {X : Cx}
def rRep (K : PySem.W.Frag) : List V → Hp → VK → Prop := fun xs H Q =>
  ∃ v d, xs = [v] ∧ Dp K H v d ∧ d.showable = true ∧ d.hasDict = false ∧ d.depth ≤ 100 ∧ wide d ≤ 10000000 ∧ Q (.str d.shown) H
theorem big_sz : (10000000 : Nat) ≤ sizeLine := by rw [sizeLine_eq]; decide
theorem call_repD (qu : Quiet X.A) (hu : X.A.units + 200 < cLine) : CallR X (.builtin "repr") (rRep X.K) := by
  intro pins s σ H xs us Q I rv h
  obtain ⟨v, d, rfl, hd, h1, h2, h3, h4, q⟩ := h
  obtain ⟨u, rfl, ru⟩ := vals1 rv
  obtain ⟨as, rd⟩ := Dp.reads I d v u hd ru
  have sz : d.shown.length ≤ sizeLine := Nat.le_trans (shown_wide d h1 h2) (Nat.le_trans h4 big_sz)
  have fin : ∀ h' t tk, (∀ b o, s.heap.get? b = some o → h'.get? b = some o) → EP X pins σ Q (.str d.shown t) { s with heap := h', toks := tk } :=
    fun h' t tk k => ⟨.str _, H, I.kept k, ⟨_, rfl⟩, q⟩
  cases hd with
  | non =>
    obtain rfl : u = Value.none := ru
    exact PySem.P.repr_of_none (fin s.heap _ _ fun _ _ e => e)
  | bl b =>
    obtain rfl : u = Value.bool b := ru
    refine PySem.P.repr_of_bool ?_
    have z := fin s.heap s.toks (s.toks + 1) fun _ _ e => e
    simp only [PyData.shown] at z
    cases b <;> exact z
  | int i =>
    obtain ⟨t, rfl⟩ := ru
    refine PySem.P.repr_of_int (of_decide_eq_true (by simpa only [PyData.showable] using h1)) ?_
    exact fin s.heap _ _ fun _ _ e => e
  | str x =>
    obtain ⟨t, rfl⟩ := ru
    exact PySem.P.repr_of_str (fin s.heap _ _ fun _ _ e => e) sz
  | lst hs ha =>
    obtain rfl : u = Value.ref _ := ru
    exact repr_of_reads' rd h1 (PyData.noDict_hsm h2) qu (by omega) (fun _ _ e => e) (fun h' t tk k => fin h' t tk k) sz
  | tup hs ha =>
    obtain rfl : u = Value.ref _ := ru
    exact repr_of_reads' rd h1 (PyData.noDict_hsm h2) qu (by omega) (fun _ _ e => e) (fun h' t tk k => fin h' t tk k) sz
/-- // by any divisor but 0, of fewer than 9000 bits -/
def CDivZ (_ j : Int) : Prop := j ≠ 0 ∧ j.natAbs.log2 < 9000
theorem op_fdivZ : OpR X (binaryOp .FloorDiv) (rI CDivZ fun i j => .int (i.fdiv j)) := opI fun i j _ _ _ _ _ hc q =>
  floordiv_int hc.1 q (.inl (PyProof.noPylong_of_log2 hc.2))
end
end Gx

set_option Elab.async false
set_option linter.all false
set_option maxRecDepth 100000
set_option maxHeartbeats 2000000
namespace Gx
open PySem PySem.Spec PyProof.Rows L2 Evl
/-! A list of the law's own that calls change, told by what stays true of it: the abstract heap stays as it is. -/
def plainO : HO → Bool
  | .tup _ => false
  | .frz _ _ => false
  | .tbl _ => false
  | .own _ => false
  | _ => true
section
variable {P : Program} {w : World} {H H1 : Hp} {h h' : Heap} {b : Addr} {u u1 u2 : HO} {fs ex : List Addr}
theorem hok_swap (ok : HOk P w H h) (hb : H b = some u) (hp : plainO u = true) (ob : ObjOk P w (upd H b u1) h b u1) :
    HOk P w (upd H b u1) h := by
  intro a o e
  by_cases hab : a = b
  · subst hab
    rw [upd_same] at e
    cases e
    exact ob
  · rw [upd_ne hab] at e
    refine (ok a o e).stay (fun _ _ _ q => q) (fun c q => ?_) (fun c xs q => ?_)
    · rw [upd_ne (fun z => by rw [z, hb] at q; cases q; cases hp)]; exact q
    · rw [upd_ne (fun z => by rw [z, hb] at q; cases q; cases hp)]; exact q
theorem un_seal (hb : H b = some u) (un : Un fs ex (upd H b u1) (upd H b u2) h h') : Un fs ex H H h h' := by
  have nb : ∀ c, H c = none → c ≠ b := fun c n z => by rw [z, hb] at n; cases n
  refine ⟨fun c o q n hc hx => ?_, fun c o q n hc hx => ?_, fun _ _ _ n _ => n, fun c o q hx => un.there c o q hx,
    fun _ _ q => q, fun _ _ _ q => q, fun c ps q => ⟨#[], by rw [q]; simp⟩⟩
  · exact un.keep c o q (by rw [upd_ne (nb c n)]; exact n) hc hx
  · exact un.slot c o q (by rw [upd_ne (nb c n)]; exact n) hc hx
theorem un_new (hb : H1 b = some u) (hp : plainO u = true) (un : Un fs ex H H1 h h') : Un fs ex H (upd H1 b u1) h h' := by
  refine ⟨un.keep, un.slot, fun c o q n hx => ?_, un.there, fun c xs q => ?_, fun c o v q => ?_, fun c ps q => ?_⟩
  · have z := un.free c o q n hx
    rw [upd_ne (fun e => by rw [e, hb] at z; cases z)]; exact z
  · have z := un.tups c xs q
    rw [upd_ne (fun e => by rw [e, hb] at z; cases z; cases hp)]; exact z
  · have z := un.frzs c o v q
    rw [upd_ne (fun e => by rw [e, hb] at z; cases z; cases hp)]; exact z
  · obtain ⟨more, z⟩ := un.tbls c ps q
    exact ⟨more, by rw [upd_ne (fun e => by rw [e, hb] at z; cases z; cases hp)]; exact z⟩
end
theorem upd_self {H : Hp} {b : Addr} {u : HO} (h : H b = some u) : upd H b u = H := by
  funext c
  by_cases e : c = b
  · subst e; rw [upd_same, h]
  · rw [upd_ne e]
/-! ### the bag -/
def BagAt (b l : Addr) (h : Heap) : Prop := ∃ (p q r : Int) (t1 t2 t3 : Tok) (n : Nat),
  h.get? b = some { cls := .type "list", data := .seq #[.int p t1, .int q t2, .int r t3, .ref l] n } ∧
    0 ≤ p ∧ 0 ≤ q ∧ q < 2147483647 ∧ 0 ≤ r
def BagO (b l : Addr) : HO := .ext (BagAt b l)
def bagL (p q r : Int) (l : Addr) : List V := [.int p, .int q, .int r, .ref l]
structure Bag (H : Hp) (b : Addr) : Prop where
  ex : ∃ (l : Addr) (cs : List Int), H b = some (BagO b l) ∧ H l = some (.lst (cs.map V.int)) ∧ ∀ c ∈ cs, 0 ≤ c
theorem Bag.to {H H' : Hp} {b : Addr} (g : Bag H b) (e : Ex H H') : Bag H' b := by
  obtain ⟨l, cs, h1, h2, h3⟩ := g.ex
  exact ⟨l, cs, e _ _ h1, e _ _ h2, h3⟩
theorem bag_objOk {P : Program} {w : World} {H : Hp} {h : Heap} {b l : Addr} (x : BagAt b l h) : ObjOk P w H h b (BagO b l) := by
  refine ⟨x, ?_, fun h1 h2 y k => ?_⟩
  · obtain ⟨p, q, r, t1, t2, t3, n, e, _⟩ := x
    exact ⟨_, e⟩
  · obtain ⟨p, q, r, t1, t2, t3, n, e, z⟩ := y
    exact ⟨p, q, r, t1, t2, t3, n, k _ e, z⟩
theorem bag_open {P : Program} {w : World} {H : Hp} {h : Heap} {b l : Addr} (ok : HOk P w H h) (hb : H b = some (BagO b l)) :
    ∃ p q r : Int, (0 ≤ p ∧ 0 ≤ q ∧ q < 2147483647 ∧ 0 ≤ r) ∧ HOk P w (upd H b (.lst (bagL p q r l))) h := by
  obtain ⟨⟨p, q, r, t1, t2, t3, n, e, z⟩, _⟩ := ok b _ hb
  refine ⟨p, q, r, z, hok_swap ok hb rfl ⟨by show 4 ≤ sizeLine; decide, [.int p t1, .int q t2, .int r t3, .ref l], n, ?_, e⟩⟩
  exact .cons ⟨_, rfl⟩ (.cons ⟨_, rfl⟩ (.cons ⟨_, rfl⟩ (.cons rfl .nil)))
theorem bag_close {P : Program} {w : World} {H : Hp} {h : Heap} {b l : Addr} {p q r : Int} (ok : HOk P w H h)
    (hb : H b = some (.lst (bagL p q r l))) (z : 0 ≤ p ∧ 0 ≤ q ∧ q < 2147483647 ∧ 0 ≤ r) : BagAt b l h := by
  obtain ⟨_, its, n, rv, e⟩ := ok b _ hb
  unfold bagL at rv
  cases rv with
  | cons r1 rv => cases rv with
    | cons r2 rv => cases rv with
      | cons r3 rv => cases rv with
        | cons r4 rv =>
          cases rv
          obtain ⟨t1, rfl⟩ := r1
          obtain ⟨t2, rfl⟩ := r2
          obtain ⟨t3, rfl⟩ := r3
          obtain rfl := r4
          exact ⟨p, q, r, t1, t2, t3, n, e, z⟩
/-- what _law_take promises: some number below many, and nothing that is told has changed -/
def spTake : Sp := fun vs H Q _ => ∃ (b : Addr) (many : Int), vs = [.ref b, .int many] ∧ Bag H b ∧ 0 < many ∧ many < 1073741824 ∧
  ∀ x : Int, 0 ≤ x → x < many → Q (.int x) H
/-- .. and what its body does to the list -/
def spTakeI : Sp := fun vs H Q _ => ∃ (b l : Addr) (many p q r : Int) (cs : List Int), vs = [.ref b, .int many] ∧
  H b = some (.lst (bagL p q r l)) ∧ H l = some (.lst (cs.map V.int)) ∧ b ≠ l ∧ (∀ c ∈ cs, 0 ≤ c) ∧
  (0 ≤ p ∧ 0 ≤ q ∧ q < 2147483647 ∧ 0 ≤ r) ∧ 0 < many ∧ many < 1073741824 ∧
  ∀ x p' q' r' : Int, 0 ≤ x → x < many → (0 ≤ p' ∧ 0 ≤ q' ∧ q' < 2147483647 ∧ 0 ≤ r') →
    Q (.int x) (upd H b (.lst (bagL p' q' r' l)))
def spBag (K : PySem.W.Frag) : Sp := fun vs H Q _ => ∃ (a : Addr) (ns : List Int), vs = [.ref a] ∧ SqL K H a (ns.map V.int) ∧ ns.length ≤ 1000 ∧
  ∀ b H', Ex H H' → Bag H' b → Q (.ref b) H'
def spBagI (K : PySem.W.Frag) : Sp := fun vs H Q _ => ∃ (a : Addr) (ns : List Int), vs = [.ref a] ∧ SqL K H a (ns.map V.int) ∧ ns.length ≤ 1000 ∧
  ∀ (b l : Addr) (cs : List Int) (H' : Hp), Ex H H' → H b = none → H' b = some (.lst (bagL 0 1234567891 0 l)) →
    H' l = some (.lst (cs.map V.int)) → (∀ c ∈ cs, 0 ≤ c) → Q (.ref b) H'
section
variable {P : Program} {w : World} {K : PySem.W.Frag} {mg : Str → Option Value} {base : Heap} {k : Nat} {f : Addr} {fd : FuncData}
theorem take_sealed (F : FnOk P w K mg base CX0 k f fd ["_law_bag_here", "_law_many"] spTakeI) :
    FnOk P w K mg base CX0 k f fd ["_law_bag_here", "_law_many"] spTake := by
  refine ⟨fun vs H Q E h => ?_, fun A outer s H args us vs Q E rm e0 bd rv h => ?_⟩
  · obtain ⟨b, many, rfl, _⟩ := h; rfl
  · obtain ⟨b, many, rfl, ⟨l, cs, hb, hl, hc⟩, m0, m1, kq⟩ := h
    obtain ⟨p, q, r, z, ok1⟩ := bag_open e0.hok hb
    have nbl : b ≠ l := fun e => by rw [e, hl] at hb; cases hb
    have e1 : Env0 P w K mg base A outer s (upd H b (.lst (bagL p q r l))) := by
      refine ⟨e0.frames, e0.mod, fun c o q => ?_, e0.bsz, e0.funs, fun c hc => ?_, ok1, e0.bare⟩
      · obtain ⟨x1, x2⟩ := e0.bs c o q
        exact ⟨x1, by rw [upd_ne (fun e => by rw [e, hb] at x2; cases x2)]; exact x2⟩
      · have x2 := e0.frf c hc
        rw [upd_ne (fun e => by rw [e, hb] at x2; cases x2)]; exact x2
    refine codeAny_mono (F.run A outer s _ args us [.ref b, .int many]
      (fun v H' => ∃ (x p' q' r' : Int), v = .int x ∧ 0 ≤ x ∧ x < many ∧ (0 ≤ p' ∧ 0 ≤ q' ∧ q' < 2147483647 ∧ 0 ≤ r') ∧ H' = upd (upd H b (.lst (bagL p q r l))) b (.lst (bagL p' q' r' l)))
      E rm e1 bd rv ⟨b, l, many, p, q, r, cs, rfl, upd_same, by rw [upd_ne nbl.symm]; exact hl, nbl, hc, z, m0, m1,
        fun x p' q' r' h0 h1 zz => ⟨x, p', q', r', rfl, h0, h1, zz, rfl⟩⟩) ?_
    intro r s' hq
    match r, hq with
    | .ok (.ret u), ⟨v, H', os, bare, un, ok', rv', x, p', q', r', ev, h0, h1, zz, eH⟩ =>
      subst eH
      rw [upd_upd] at un ok'
      have at_ := bag_close ok' upd_same zz
      have ok2 := hok_swap (u1 := BagO b l) ok' upd_same rfl (bag_objOk at_)
      rw [upd_upd, upd_self hb] at ok2
      exact ⟨v, H, os, bare, un_seal hb un, ok2, rv', by rw [ev]; exact kq x h0 h1⟩
theorem bag_sealed (F : FnOk P w K mg base CX0 k f fd ["_law_script"] (spBagI K)) : FnOk P w K mg base CX0 k f fd ["_law_script"] (spBag K) := by
  refine ⟨fun vs H Q E h => ?_, fun A outer s H args us vs Q E rm e0 bd rv h => ?_⟩
  · obtain ⟨a, ns, rfl, _⟩ := h; rfl
  · obtain ⟨a, ns, rfl, hs, hl, kq⟩ := h
    refine codeAny_mono (F.run A outer s H args us [.ref a]
      (fun v H' => ∃ (b l : Addr) (cs : List Int), v = .ref b ∧ Ex H H' ∧ H b = none ∧ H' b = some (.lst (bagL 0 1234567891 0 l)) ∧
        H' l = some (.lst (cs.map V.int)) ∧ (∀ c ∈ cs, 0 ≤ c))
      E rm e0 bd rv ⟨a, ns, rfl, hs, hl, fun b l cs H' x1 x2 x3 x4 x5 => ⟨b, l, cs, rfl, x1, x2, x3, x4, x5⟩⟩) ?_
    intro r s' hq
    match r, hq with
    | .ok (.ret u), ⟨v, H', os, bare, un, ok', rv', b, l, cs, ev, ex, nb, hb, hl', hc⟩ =>
      have at_ := bag_close ok' hb ⟨by decide, by decide, by decide, by decide⟩
      have ok2 := hok_swap (u1 := BagO b l) ok' hb rfl (bag_objOk at_)
      have nbl : l ≠ b := fun e => by rw [e, hb] at hl'; injection hl' with e1; injection e1 with e2; cases cs with
        | nil => cases e2
        | cons c cs => cases cs with
          | nil => cases e2
          | cons c2 cs => cases cs with
            | nil => cases e2
            | cons c3 cs => cases cs with
              | nil => cases e2
              | cons c4 cs => cases e2
      refine ⟨v, _, os, bare, un_new hb rfl un, ok2, rv', ?_⟩
      subst ev
      refine kq b _ (ex.mut nb) ⟨l, cs, upd_same, by rw [upd_ne nbl]; exact hl', hc⟩
end
end Gx

set_option Elab.async false
set_option linter.all false
set_option maxRecDepth 100000
set_option maxHeartbeats 2000000
namespace Gx
open PySem PySem.Spec PyProof.Rows L2 Evl
/-- the built-in names that the text uses are still the built-in ones -/
structure Bi (mg : Str → Option Value) : Prop where
  len : mg "len" = none
  abs : mg "abs" = none
  max : mg "max" = none
  min : mg "min" = none
  repr : mg "repr" = none
  int : mg "int" = none
  tuple : mg "tuple" = none
  list : mg "list" = none
  dict : mg "dict" = none
  isinstance : mg "isinstance" = none
  sorted : mg "sorted" = none
  sum : mg "sum" = none
  all : mg "all" = none
  any : mg "any" = none
  range : mg "range" = none
  enumerate : mg "enumerate" = none
  zip : mg "zip" = none
  bool : mg "bool" = none
  str : mg "str" = none
  set : mg "set" = none
theorem bt_len : bootBuiltins "len" = some (.builtin "len") := by decide +kernel
theorem bt_abs : bootBuiltins "abs" = some (.builtin "abs") := by decide +kernel
theorem bt_max : bootBuiltins "max" = some (.builtin "max") := by decide +kernel
theorem bt_min : bootBuiltins "min" = some (.builtin "min") := by decide +kernel
theorem bt_repr : bootBuiltins "repr" = some (.builtin "repr") := by decide +kernel
theorem bt_int : bootBuiltins "int" = some (.type "int") := by decide +kernel
theorem bt_tuple : bootBuiltins "tuple" = some (.type "tuple") := by decide +kernel
theorem bt_list : bootBuiltins "list" = some (.type "list") := by decide +kernel
theorem bt_dict : bootBuiltins "dict" = some (.type "dict") := by decide +kernel
theorem bt_isinstance : bootBuiltins "isinstance" = some (.builtin "isinstance") := by decide +kernel
theorem bt_sorted : bootBuiltins "sorted" = some (.builtin "sorted") := by decide +kernel
theorem bt_sum : bootBuiltins "sum" = some (.builtin "sum") := by decide +kernel
theorem bt_all : bootBuiltins "all" = some (.builtin "all") := by decide +kernel
theorem bt_bool : bootBuiltins "bool" = some (.type "bool") := by decide +kernel
theorem bt_str : bootBuiltins "str" = some (.type "str") := by decide +kernel
theorem bt_set : bootBuiltins "set" = some (.type "set") := by decide +kernel
theorem bt_any : bootBuiltins "any" = some (.builtin "any") := by decide +kernel
/-- a def of the top as the head leaves it -/
structure Def (K : PySem.W.Frag) (mg : Str → Option Value) (x : Str) (st : Stmt) (f : Addr) (fd : FuncData) (ps : List Str) : Prop where
  fn : Fun K x x st f fd
  mg : mg x = some (.ref f)
  bd : Binds K fd ps []
/-- .. by what the head tells of it -/
def IsDef (K : PySem.W.Frag) (x qual : Str) (st : Stmt) (f : Addr) : Prop :=
  ∃ (oc : Value) (od : Option Addr) (kV doc pm : Value) (an : Option Addr) (cdv ct : Value) (osl : Array (Option Value)),
    K.lookup f = some ⟨oc, od, .func (PySem.W.fnOf x qual (defArgs st) (defBody st) (defScope st) .none kV doc pm an cdv ct), osl⟩ ∧
      PySem.W.codeIn K cdv qual = true ∧ PySem.W.keepIn K (.ref f) = true
theorem IsDef.fn {K : PySem.W.Frag} {x qual : Str} {st : Stmt} {f : Addr} (d : IsDef K x qual st f) : ∃ fd, Fun K x qual st f fd := by
  obtain ⟨oc, od, kV, doc, pm, an, cdv, ct, osl, l, c, k⟩ := d
  exact ⟨_, fun_mk l c k⟩
theorem def_mk {K : PySem.W.Frag} {h : Heap} {mg : Str → Option Value} {x : Str} {st : Stmt} {f : Addr} {ps : List Str}
    (X : K.In h) (G : h.Ns mainGlobals mg) (a : PySem.W.nsIn K mainGlobals x = some (some (.ref f))) (d : IsDef K x x st f)
    (hb : ∀ (kV doc pm : Value) (an : Option Addr) (cdv ct : Value) (us : List Value), us.length = ps.length →
      bindArgs (PySem.W.fnOf x x (defArgs st) (defBody st) (defScope st) .none kV doc pm an cdv ct) ⟨us, []⟩ = pure (ps.zip us)) :
    ∃ fd, Def K mg x st f fd ps := by
  obtain ⟨fd, F⟩ := d.fn
  exact ⟨fd, F, PySem.W.mg_of X G a, F.binds hb⟩
/-- a quiet def from which no exception leaves -/
theorem fnq_ok {P : Program} {w : World} {K : PySem.W.Frag} {mg : Str → Option Value} {base : Heap}
    {x qual : Str} {st : Stmt} {f : Addr} {fd : FuncData} {N ps : List Str} {k : Nat} {sp : Sp}
    (F : Fun K x qual st f fd) (S : FnScope N ps (defScope st))
    (len : ∀ vs H Q E, sp vs H Q E → vs.length = ps.length)
    (walk : ∀ (cdv : Value) (A : Around) (outer : List Env) (s : Shared) (H : Hp) (vs : List V) (Q : VK) (E : XK),
      Room k (A.deeper (envOfC qual (defScope st) s.heap.objs.size f cdv)) →
      Quiet (A.deeper (envOfC qual (defScope st) s.heap.objs.size f cdv)) → sp vs H Q E →
      ∃ t, PSs (cxOf CX0 P w K mg base N qual (defScope st) f cdv A outer s H E).nox (defBody st) t ∧
        t { nx := fun _ H' => Q .non H', rt := Q } (start N vs) H) :
    FnQ P w K mg base CX0 (k + 1) f fd ps sp :=
  fnq_of F S len fun cdv A outer s H vs Q E rm qu h =>
    let ⟨t, a, b⟩ := walk cdv A outer s H vs Q E rm qu h
    ⟨t, a.nox, b⟩
section
variable {X : Cx}
def rGetL (K : PySem.W.Frag) : V → V → Hp → VK → Prop := fun o i H Q => ∃ p xs k v, o = .ref p ∧ i = .int k ∧ SqL K H p xs ∧
  0 ≤ k ∧ k < 1000000 ∧ xs[k.toNat]? = some v ∧ Q v H
theorem get_list : PGet X (rGetL X.K) := by
  intro pins s σ H o i ov iv Q I ro ri h
  obtain ⟨p, xs, k, v, rfl, rfl, hs, h0, h1, hx, q⟩ := h
  obtain rfl : ov = Value.ref p := ro
  obtain ⟨t, rfl⟩ := ri
  obtain ⟨its, r, pl, hz⟩ := I.list hs
  obtain ⟨u, hu, ru⟩ := r.get hx
  exact wpAny_getItem_list pl.isList h0 (by omega) (by simpa using hu) ⟨v, H, I, ru, q⟩
end
theorem ex_upd {H H' : Hp} {p : Addr} {o : HO} (e : Ex H H') (n : H' p = none) : Ex H (upd H' p o) := e.trans (Ex.new n)
/-- a test read out -/
theorem if_d {c A B : Prop} [Decidable c] (h1 : c → A) (h2 : ¬ c → B) : if decide c = true then A else B := by
  by_cases h : c
  · rw [if_pos (decide_eq_true h)]; exact h1 h
  · rw [if_neg (by rw [decide_eq_false h]; exact Bool.false_ne_true)]; exact h2 h
theorem if_nd {c A B : Prop} [Decidable c] (h1 : ¬ c → A) (h2 : c → B) : if (!decide c) = true then A else B := by
  by_cases h : c
  · rw [decide_eq_true h]; exact iteF (h2 h)
  · rw [decide_eq_false h]; exact iteT (h1 h)
theorem V_int_eq {a b : Int} : (V.int a = V.int b) = (a = b) := propext ⟨fun h => V.int.inj h, fun h => by rw [h]⟩
theorem atI_of {α : Type} {xs : List α} {i : Int} {v : α} (h0 : 0 ≤ i) (h : xs[i.toNat]? = some v) : atI xs i = some v := by
  have hl := (List.getElem?_eq_some_iff.mp h).1
  unfold atI ixN
  rw [if_pos h0, if_pos (by omega)]
  exact h
theorem get_of {α : Type} {xs : List α} {i : Int} (h0 : 0 ≤ i) (h1 : i < xs.length) : ∃ v, xs[i.toNat]? = some v ∧ v ∈ xs := by
  have hl : i.toNat < xs.length := by omega
  exact ⟨xs[i.toNat], List.getElem?_eq_getElem hl, List.getElem_mem hl⟩
end Gx

set_option Elab.async false
set_option linter.all false
set_option maxRecDepth 100000
set_option maxHeartbeats 2000000
namespace Gx
open PySem PySem.Spec PyProof.Rows L2 Evl
/-- a tuple of which the very object is known: it has no dict of its own -/
def ExT (H : Hp) (a : Addr) (xs : List V) : Prop := ∃ o : Obj, H a = some (.frz o (.tup xs)) ∧ o.dict = none
theorem ExT.sq {K : PySem.W.Frag} {H : Hp} {a : Addr} {xs : List V} (x : ExT H a xs) : SqT K H a xs := by
  obtain ⟨o, h, _⟩ := x
  exact .inl (.inr ⟨o, h⟩)
theorem ExT.to {H H' : Hp} {a : Addr} {xs : List V} (x : ExT H a xs) (e : Ex H H') : ExT H' a xs := by
  obtain ⟨o, h, d⟩ := x
  exact ⟨o, e _ _ h, d⟩
section
variable {X : Cx}
/-- tuple(xs) of a list, the new object known -/
def rTupX (K : PySem.W.Frag) : List V → Hp → VK → Prop := fun xs H Q => ∃ (p : Addr) (ys : List V), xs = [.ref p] ∧ SqL K H p ys ∧
  ∀ l H', H l = none → Ex H H' → ExT H' l ys → Q (.ref l) H'
theorem call_tupX : CallR X (.type "tuple") (rTupX X.K) := by
  intro pins s σ H xs us Q I rv h
  obtain ⟨p, ys, rfl, hq, q⟩ := h
  obtain ⟨u, rfl, ru⟩ := vals1 rv
  obtain rfl : u = Value.ref p := ru
  obtain ⟨its, r', pl, hz⟩ := I.list hq
  have hlen := r'.length
  refine call_tuple_list pl.isList (fun h' kp => ?_) (by simp only [List.size_toArray] <;> omega)
  have I1 : Inv X pins σ H { s with heap := h' } := I.kept (t' := s.toks) kp
  have hn : H h'.objs.size = none := I1.hok.fresh (Nat.le_refl _)
  have I2 := I1.laid (t' := s.toks) (a := h'.objs.size) (o := .frz { cls := .type "tuple", data := .seq its.toArray } (.tup ys))
    (h' := h'.push { cls := .type "tuple", data := .seq its.toArray }) (fun b o e => Heap.get?_push_of_some _ e) (Nat.le_refl _)
    ⟨Heap.get?_push_size _ rfl, hz, its, r', IsTup.new _ _⟩
  exact ⟨.ref h'.objs.size, _, I2, rfl, q _ _ hn (Ex.new hn) ⟨_, upd_same, rfl⟩⟩
/-- dict(t) of a tuple of pairs whose keys are ints or texts -/
def rDictT (K : PySem.W.Frag) : List V → Hp → VK → Prop := fun xs H Q => ∃ (a : Addr) (ps : List Addr) (kvs : List (Key × V)), xs = [.ref a] ∧
  ExT H a (ps.map V.ref) ∧ Paired (fun p kv => SqT K H p [kV kv.1, kv.2]) ps kvs ∧ ∀ p, H p = none → Q (.ref p) (upd H p (.dK (mergeK [] kvs)))
theorem call_dictT (hcalm : X.calm = true) : CallR X (.type "dict") (rDictT X.K) := by
  intro pins s σ H xs us Q I rv h
  obtain ⟨a, ps, kvs, rfl, ⟨o, ho, hd⟩, hp, q⟩ := h
  obtain ⟨u, rfl, ru⟩ := vals1 rv
  obtain rfl : u = Value.ref a := ru
  obtain ⟨he, hz, its, r', ⟨o', e', hc, n, hdat⟩⟩ := I.hok a _ ho
  rw [he] at e'
  cases e'
  have ei := refs_at r'
  subst ei
  rw [List.length_map] at hz
  obtain ⟨prs, rel, hl, hpr⟩ := pairs_of I hp
  -- the keys as they stand in the heap
  have key : ∀ j : Nat, j < prs.length → ∃ kv : Value × Value, ∃ b, ps[j]? = some b ∧ IsTup s.heap b #[kv.1, kv.2] ∧
      ∃ q, prs[j]? = some q ∧ q.2 = kv.2 ∧ keyIs q.1 kv.1 = true := by
    intro j hj
    obtain ⟨b, u, e1, e2, e3⟩ := hpr j _ (List.getElem?_eq_getElem hj)
    exact ⟨(u, prs[j].2), b, e1, e2, _, List.getElem?_eq_getElem hj, rfl, e3⟩
  let ws : List (Value × Value) := List.ofFn fun j : Fin prs.length => (key j.1 j.2).choose
  have hws : ws.length = prs.length := List.length_ofFn
  have wsAt : ∀ j (hj : j < prs.length), ws[j]? = some (key j hj).choose := by
    intro j hj
    rw [List.getElem?_eq_getElem (by rw [hws]; exact hj)]
    exact congrArg some (List.getElem_ofFn (by rw [hws]; exact hj))
  refine PySem.call_dict_pairs (kvs := prs) (knd := mixKind X.prog X.w)
    (PySem.PairArg.tuple a (ps.map Value.ref).toArray (fun j => ps.getD j 0) ws) (I.ok.hd hcalm) ⟨⟨o, n, he, hc, hd, hdat⟩, ?_, ?_⟩ ⟨hws.symm, ?_⟩ ?_ ?_
  · rw [hws, hl]; simp
  · intro j k v hj
    have hjl : j < prs.length := by rw [← hws]; exact (List.getElem?_eq_some_iff.mp hj).1
    rw [wsAt j hjl] at hj
    obtain ⟨b, e1, e2, _⟩ := (key j hjl).choose_spec
    have e0 := Option.some.inj hj
    rw [e0] at e2
    refine ⟨?_, .inl ?_⟩
    · simp [e1]
    · have e3 : ps.getD j 0 = b := by simp [e1]
      show s.heap.IsTuple (ps.getD j 0) #[k, v]
      rw [e3]
      exact e2
  · intro i k v hr
    have hr' : ws[i]? = some (k, v) := hr
    have hil : i < prs.length := by rw [← hws]; exact (List.getElem?_eq_some_iff.mp hr').1
    rw [wsAt i hil] at hr'
    have e0 := Option.some.inj hr'
    obtain ⟨b, e1, e2, z, e3, e4, e5⟩ := (key i hil).choose_spec
    rw [e0] at e4 e5
    obtain ⟨z1, z2⟩ := z
    simp only at e4 e5
    subst e4
    exact ⟨z1, e3, e5⟩
  · rw [hws, hl]; exact hz
  · intro h' tk hd' k'
    have hm : (s.heap.objs.size == sysModules) = false := beq_eq_false_iff_ne.mpr (Nat.ne_of_gt I.big)
    have hlen : (mergeK [] kvs).length ≤ sizeLine := by
      refine Nat.le_trans (length_mergeK kvs []) ?_
      rw [List.length_nil, Nat.zero_add, rel.length, hl]
      exact hz
    have kk : ∀ b o, s.heap.get? b = some o → h'.get? b = some o := fun b o e => k' b o (by simp) e
    have I2 := I.laid (t' := tk) (a := s.heap.objs.size) (o := .dK (mergeK [] kvs)) kk (Nat.le_refl _) ⟨hlen, hm, merged [] prs, KV.merge rel .nil, hd'⟩
    exact ⟨.ref s.heap.objs.size, _, I2, rfl, q _ (I.hok.fresh (Nat.le_refl _))⟩
end
/-- a dict of pairs with different keys, looked up -/
theorem valV_merge : ∀ (kvs acc : List (Key × V)) (k : Key), (∀ kv ∈ kvs, valV acc kv.1 = none) → (kvs.map (·.1)).Nodup →
    valV (mergeK acc kvs) k = match valV kvs k with | some v => some v | none => valV acc k
  | [], acc, k, _, _ => rfl
  | kv :: r, acc, k, h, nd => by
    rw [List.map_cons, List.nodup_cons] at nd
    have e : mergeK acc (kv :: r) = mergeK (putK acc kv.1 kv.2) r := rfl
    rw [e, valV_merge r (putK acc kv.1 kv.2) k (fun z hz => ?_) nd.2]
    · rw [valV_put]
      by_cases hk : kv.1 = k
      · rw [valV_pos hk, if_pos hk.symm]
        have : valV r k = none := by
          cases q : valV r k with
          | none => rfl
          | some v => exact absurd (by rw [hk]; exact valV_in q) nd.1
        rw [this]
      · rw [valV_neg hk, if_neg (fun e => hk e.symm)]
    · rw [valV_put, if_neg (fun e => nd.1 (by rw [← e]; exact List.mem_map_of_mem hz))]
      exact h z (List.mem_cons_of_mem _ hz)
end Gx

set_option Elab.async false
set_option linter.all false
set_option maxRecDepth 100000
set_option maxHeartbeats 2000000
namespace PySem
open AutoSeq1 (wpAny_loadPart')
/-- enumerate(t) of a tuple -/
theorem gx_enum_new (l : Addr) (items : Array Value) (n : Nat) (dct : Option Addr) (sl : Array (Option Value)) :
    Meets (Builtin.«enumerate.__new__» ⟨[.type "enumerate", .ref l], []⟩) (fun _ R s =>
      s.heap.get? l = some { cls := .type "tuple", dict := dct, data := .seq items n, slots := sl } ∧
      R (.ok (.ret (.ref (s.heap.push { cls := .type "tuple_iterator", data := .fields #[.ref l, .int 0 0] }).objs.size)))
        { s with heap := (s.heap.push { cls := .type "tuple_iterator", data := .fields #[.ref l, .int 0 0] }).push { cls := .type "enumerate", data := .fields #[.none, .bool false, .ref s.heap.objs.size, rawInt 0, .none, .none] } }) := by
  refine .of_wp fun prog w A R s h => ?_
  obtain ⟨hp, g, d, tk, os⟩ := s
  obtain ⟨hl, h⟩ := h
  have sb := sub_enumerate
  have tT : Heap.IsTuple (Shared.heap ⟨hp, g, d, tk, os⟩) l items := ⟨_, hl, rfl, n, rfl⟩
  wp_walk using wpAny_loadPart' hl
  refine wpAny_stack_any fun st => wpAny_pure ?_
  split
  · rename_i c _ _ _ _ _
    cases (c == Value.type "enumerate") <;>
      (wp_walk using wpAny_loadPart' hl, wpAny_pyIter_tuple tT; exact ⟨_, rfl, h⟩)
  · wp_walk using wpAny_loadPart' hl, wpAny_pyIter_tuple tT
    exact ⟨_, rfl, h⟩
section
variable {prog : Program} {w : World} {A : Around} {E : Value → Shared → Prop} {s : Shared}
theorem gx_call_enum {l : Addr} {items : Array Value} {Q : Value → Shared → Prop} (hL : s.heap.IsTuple l items)
    (h : ∀ h', IsEnum h' (s.heap.objs.size + 1) s.heap.objs.size 0 .none → h'.IsTupleIter s.heap.objs.size l 0 →
      (∀ b o, s.heap.get? b = some o → h'.get? b = some o) → Q (.ref (s.heap.objs.size + 1)) { s with heap := h' }) :
    wpAny (model prog w) A (call (.type "enumerate") [.ref l]) Q E s := by
  obtain ⟨⟨c, dct, dt, sl⟩, hl, hc, n, hd⟩ := hL
  obtain rfl : c = .type "tuple" := hc
  obtain rfl : dt = .seq items n := hd
  refine callType_new F.called_enumerate (by decide) (F.typeCall_enumerate_1 _) (F.newCall_enumerate_1 _)
    (fun obj => F.args_object_init_2 obj _) F.entry_enumerate_new (gx_enum_new l items n dct sl) ⟨hl, ?_⟩
  have sz : (s.heap.push { cls := .type "tuple_iterator", data := .fields #[.ref l, .int 0 0] }).objs.size = s.heap.objs.size + 1 := Heap.size_push ..
  have at1 := Heap.get?_push_size (s.heap.push { cls := .type "tuple_iterator", data := .fields #[.ref l, .int 0 0] })
    (o := { cls := .type "enumerate", data := .fields #[.none, .bool false, .ref s.heap.objs.size, rawInt 0, .none, .none] }) rfl
  show _ ∧ _
  rw [sz] at at1 ⊢
  refine ⟨⟨_, at1, rfl⟩, h _ at1 ⟨_, Heap.get?_push_of_some _ (Heap.get?_push_size _ rfl), rfl, rfl⟩ ?_⟩
  exact fun b o x => Heap.get?_push_of_some _ (Heap.get?_push_of_some _ x)
end
end PySem
namespace Gx
open PySem PySem.Spec PyProof.Rows L2 Evl
/-- the tuple at a, each item in a new pair with its number -/
def Iet (K : PySem.W.Frag) (a : Addr) : It where
  go := fun i H => ∃ (xs : List V) (x : V), SqT K H a xs ∧ xs[i]? = some x
  yld := fun i H v H' => ∃ T x, v = .ref T ∧ H T = none ∧ H' = upd H T (.tup [.int (i : Nat), x]) ∧ ∀ xs, SqT K H a xs → xs[i]? = some x
  stop := fun i H => ∃ xs : List V, SqT K H a xs ∧ xs.length ≤ i
theorem turn_enumT {P : Program} {w : World} {K : PySem.W.Frag} {elts : List Expr} {kk : Nat} {tpos : Pos} (a e it : Addr) (nt : a ≠ it) :
    Turn P w K (.Tuple elts kk tpos) (Iet K a) [e, it] e
      (fun i h => (∃ old, IsEnum h e it ((i : Nat) : Int) old) ∧ h.IsTupleIter it a i ∧ e ≠ it ∧ e ≠ a) := by
  refine ⟨by simp, fun i h st b hb => ?_, fun i h h' st k => ?_, ?_, ?_, fun A i s Q E st h => ?_⟩
  · obtain ⟨⟨old, he⟩, ⟨o, ho, hc, hd⟩, _⟩ := st
    rcases List.mem_cons.mp hb with z | z
    · subst z; exact ⟨_, he, fun v q => nomatch q⟩
    · rw [List.mem_singleton] at z; subst z; exact ⟨o, ho, fun v q => by rw [hd] at q; cases q⟩
  · obtain ⟨⟨old, he⟩, hi, hne⟩ := st
    exact ⟨⟨old, k e (by simp) _ he⟩, hi.at fun o q => k it (by simp) o q, hne⟩
  · intro X hP hw hK hc i pins s σ H E I hf st hg
    subst hP hw hK
    obtain ⟨⟨old, he⟩, hit, hne, hea⟩ := st
    obtain ⟨xs, x, hq, hx⟩ := hg
    obtain ⟨its, rv, tp, hz⟩ := I.tuple hq
    obtain ⟨u, hu, ru⟩ := rv.get hx
    have el : e < s.heap.objs.size := Heap.lt_size he
    have il : it < s.heap.objs.size := by obtain ⟨_, q, _⟩ := hit; exact Heap.lt_size q
    have D := Draws.tuple (prog := X.prog) (w := X.w) (A := X.A.in1) (I.ok.hd hc) it a nt its.toArray
    refine wpAny_pyNext_enum_itemD D he ⟨hit, tp⟩ (by have := (List.getElem?_eq_some_iff.mp hu).1; simpa using this) hne (by simp [hne, hea]) ?_
    intro y h' tk hy ho st' hT hsz hk
    have yu : y = u := by
      have hy' : its.toArray[i]? = some y := hy
      rw [List.getElem?_toArray, hu] at hy'
      exact (Option.some.inj hy').symm
    subst yu
    refine ⟨_, rfl, wpAny_letOwnedTupleGo_enum (s := { s with heap := h', toks := tk + 1 }) ho fun h'' he' sb => ?_⟩
    have hT2 := (sb.2 _ (Nat.ne_of_gt el)).trans hT
    have ob : ObjOk X.prog X.w (upd H s.heap.objs.size (.tup [.int (i : Nat), x])) h'' s.heap.objs.size (.tup [.int (i : Nat), x]) :=
      ⟨by show 2 ≤ sizeLine; decide, [.int i tk, y], .cons ⟨_, rfl⟩ (.cons ru .nil), ⟨_, hT2, rfl, _, rfl⟩⟩
    have I1 := I.turnedNew (ch := [e, it]) (t' := tk + 1) (fun b ob hb q => (sb.2 b (fun z => hb (by simp [z]))).trans
      (hk b ob (fun z => hb (by simp [z])) (fun z => hb (by simp [z])) q)) hf (Nat.le_refl _) ob
    refine ⟨.ref s.heap.objs.size, _, I1, rfl, ⟨_, x, rfl, I.hok.fresh (Nat.le_refl _), rfl, fun ys hy => by rw [I.tuple_inj hy hq]; exact hx⟩,
      ⟨⟨y, ?_⟩, st'.1.at fun o q => (sb.2 it (Ne.symm hne)).trans q, hne, hea⟩, fun b hb => ?_⟩
    · have e1 : ((i + 1 : Nat) : Int) = (i : Int) + 1 := by omega
      rw [e1]; exact he'
    · have bl : b < s.heap.objs.size := by
        rcases List.mem_cons.mp hb with z | z
        · subst z; exact el
        · rw [List.mem_singleton] at z; subst z; exact il
      rw [upd_ne (Nat.ne_of_lt bl)]
      exact (hf b hb).1
  · intro X hP hw hK hc i pins s σ H E I hf st hg
    subst hP hw hK
    obtain ⟨⟨old, he⟩, hit, hne, hea⟩ := st
    obtain ⟨xs, hq, hx⟩ := hg
    obtain ⟨its, rv, tp, hz⟩ := I.tuple hq
    obtain ⟨f0, f1, f2, f3, f4, f5⟩ := hf it (by simp)
    have ll := rv.length
    unfold pyNext
    have hT : s.TypeIs (.ref e) "enumerate" := ⟨_, he, rfl⟩
    refine wpAny_bind (wpAny_attempt (wpAny_callSpecial?_slot (name := Str.ofString "__next__") hT F.slot_enumerate_next
      (wpAny_call_entry F.slot_enumerate_next hT F.entry_enumerate_next ?_ (F.args_enumerate_next_1 _))))
    show wpAny _ _ (field (.ref e) 2 >>= _) _ _ _
    refine wpAny_bind (wpAny_field he rfl (x := .ref it) rfl ?_)
    refine wpAny_bind (wpAny_nextOf_tuple_end (I.ok.hd hc) hit tp (by simp; omega) fun h' x he' hx' => ?_)
    obtain ⟨o, ho, hcc⟩ := hx'
    refine wpAny_bind (wpAny_isInstance (T := "StopIteration") (b := true) ⟨o, ho, hcc⟩ isSubtype_stop ?_)
    exact wpAny_pure ⟨rfl, I.turned (t' := s.toks) (fun b o hb q => he' b o hb q) f0 f1 f3 f4 f5⟩
  · obtain ⟨⟨_, he⟩, _⟩ := st
    exact wpAny_pyIter_enum he h
def iEnumT (K : PySem.W.Frag) (ta : TA) : TI := fun σ H R => ta σ H fun vs H1 => ∃ a xs, vs = [.ref a] ∧ SqT K H1 a xs ∧ R (Iet K a) H1
theorem pi_enumT {X : Cx} {e : Expr} {ta : TA} {p pos tpos : Pos} {elts : List Expr} {kk : Nat} (hg : Gl X "enumerate")
    (hm : X.mg "enumerate" = none) (ha : PA X [e] ta) (hs : starEach [e] X.env = [(false, eval e X.env)] := by rfl) :
    PI X (.Tuple elts kk tpos) (.Call (.Name "enumerate" p) [e] [] pos) (iEnumT X.K ta) := by
  constructor
  intro pins s σ H R I h
  refine Call_ (ld_blt I hg hm boot_enumerate (PyProof.Rows.callWith_type1 (thn (ha.run pos pins s σ H _ I h) ?_) hs rfl))
  rintro us s1 ⟨vs, H1, I1, rv, a, xs, rfl, hq, q⟩
  obtain ⟨u, rfl, ru⟩ := vals1 rv
  obtain rfl : u = Value.ref a := ru
  obtain ⟨its, rv', tp, hz⟩ := I1.tuple hq
  have al : a < s1.heap.objs.size := tp.lt
  refine gx_call_enum tp fun h' he hit hk => wpAny_pyIter_enum he ?_
  have I2 : Inv X pins σ H1 { s1 with heap := h' } := I1.kept (t' := s1.toks) hk
  refine ⟨s1.heap.objs.size + 1, [s1.heap.objs.size + 1, s1.heap.objs.size], _, _, H1, rfl, I2,
    turn_enumT a (s1.heap.objs.size + 1) s1.heap.objs.size (Nat.ne_of_lt al),
    ⟨⟨.none, he⟩, hit, Nat.succ_ne_self _, Nat.ne_of_gt (Nat.lt_succ_of_lt al)⟩, fun b hb => ?_, q⟩
  have hle : s1.heap.objs.size ≤ b := by
    rcases List.mem_cons.mp hb with z | z
    · subst z; exact Nat.le_succ _
    · rw [List.mem_singleton] at z; subst z; exact Nat.le_refl _
  exact I1.fpOk hle (I1.hok.fresh hle)
theorem for_enumT {K : PySem.W.Frag} {a : Addr} {xs : List V} {g : TG} {tb : TS} {D : Ends} {σ : L2.St} {H : Hp} (Pv : Nat → L2.St → Hp → Prop)
    (h0 : Pv 0 σ H) (hl : ∀ i σ H, i ≤ xs.length → Pv i σ H → SqT K H a xs)
    (hs : ∀ i x T σ H, xs[i]? = some x → Pv i σ H → H T = none →
      g (.ref T) σ (upd H T (.tup [.int (i : Nat), x])) fun σ2 H2 => tb { D with nx := Pv (i + 1), ct := Pv (i + 1), bk := D.nx } σ2 H2)
    (hd : ∀ σ H, Pv xs.length σ H → D.nx σ H) :
    ∃ W : Nat → Nat → L2.St → Hp → Prop, (∃ m, W 0 m σ H) ∧ ∀ i m σ H, W i m σ H →
      ((Iet K a).stop i H ∧ D.nx σ H) ∨ ((Iet K a).go i H ∧ ∃ N : L2.St → Hp → Prop, (∀ σ' H', N σ' H' → ∃ m', m' < m ∧ W (i + 1) m' σ' H') ∧
        ∀ x H', (Iet K a).yld i H x H' → g x σ H' fun σ2 H2 => tb { D with nx := N, ct := N, bk := D.nx } σ2 H2) := by
  refine ⟨fun i m σ H => m = xs.length - i ∧ i ≤ xs.length ∧ Pv i σ H, ⟨xs.length, by simp, Nat.zero_le _, h0⟩, ?_⟩
  rintro i m σ H ⟨rfl, hi, p⟩
  have q := hl i σ H hi p
  by_cases hlt : i < xs.length
  · refine .inr ⟨⟨xs, xs[i], q, List.getElem?_eq_getElem hlt⟩, Pv (i + 1), fun σ' H' p' => ⟨_, by omega, rfl, hlt, p'⟩, ?_⟩
    rintro v H' ⟨T, x, rfl, nT, rfl, hx⟩
    exact hs i x T σ H (hx xs q) p nT
  · have e : i = xs.length := by omega
    subst e
    exact .inl ⟨⟨xs, q, Nat.le_refl _⟩, hd σ H p⟩
end Gx

set_option Elab.async false
set_option linter.all false
set_option maxRecDepth 100000
set_option maxHeartbeats 2000000
namespace Gx
open PySem PySem.Spec PyProof.Rows L2 Evl
/-! Steps: what they are, what they lead a number to, how they lie in the heap. -/
inductive Stp where
  | plus (k : Int) | times (k : Int) | into (k : Int) | over (k : Int) | found (ps : List (Int × Int))
abbrev Near (k : Int) : Prop := -1000000000000 ≤ k ∧ k ≤ 1000000000000
def Stp.ok : Stp → Prop
  | .plus k => Near k
  | .times k => Near k ∧ k ≠ 0
  | .into k => 0 < k ∧ k ≤ 1000000000000
  | .over k => Near k
  | .found ps => (ps.map (·.1)).Nodup ∧ (∀ p ∈ ps, Near p.1 ∧ Near p.2) ∧ ps.length ≤ 8
def look (ps : List (Int × Int)) (n : Int) : Option Int := (ps.find? fun p => decide (p.1 = n)).map (·.2)
def lead : Stp → Int → Option Int
  | .plus k, n => some (n + k)
  | .times k, n => some (n * k)
  | .into k, n => some (n.fdiv k)
  | .over k, n => if n = 0 then none else some (k.fdiv n)
  | .found ps, n => look ps n
def leadAll : List Stp → Int → Option Int
  | [], n => some n
  | s :: r, n => match lead s n with
    | some m => leadAll r m
    | none => none
/-- the number at which steps err -/
def erredAt : List Stp → Int → Option Int
  | [], _ => none
  | s :: r, n => match lead s n with
    | some m => erredAt r m
    | none => some n
theorem leadAll_none {ss : List Stp} : ∀ {n : Int}, leadAll ss n = none → ∃ m, erredAt ss n = some m := by
  induction ss with
  | nil => intro n h; cases h
  | cons s r ih =>
    intro n h
    unfold leadAll at h
    unfold erredAt
    cases e : lead s n with
    | none => exact ⟨n, rfl⟩
    | some m => rw [e] at h; exact ih h
theorem leadAll_some {ss : List Stp} : ∀ {n m : Int}, leadAll ss n = some m → erredAt ss n = none := by
  induction ss with
  | nil => intro n m h; rfl
  | cons s r ih =>
    intro n m h
    unfold leadAll at h
    unfold erredAt
    cases e : lead s n with
    | none => rw [e] at h; cases h
    | some m => rw [e] at h; exact ih h
/-! ### how great the numbers grow -/
theorem fdiv_abs {a b : Int} (hb : b ≠ 0) : (a.fdiv b).natAbs ≤ a.natAbs := by
  have h1 := Int.mul_fdiv_add_fmod a b
  by_cases pb : 0 < b
  · rw [Int.fdiv_eq_ediv_of_nonneg a (by omega)]
    by_cases pa : 0 ≤ a
    · have := Int.ediv_le_self b pa
      have := Int.ediv_nonneg pa (by omega : 0 ≤ b)
      omega
    · have q1 : a ≤ a / b := by
        have := Int.mul_ediv_self_le (x := a) (k := b) (by omega)
        have q2 := Int.lt_mul_ediv_self_add (x := a) pb
        by_cases z : a / b ≤ a - 1
        · have : b * (a / b) ≤ b * (a - 1) := Int.mul_le_mul_of_nonneg_left z (by omega)
          have e : b * (a - 1) = b * a - b := by rw [Int.mul_sub, Int.mul_one]
          have : b * a ≤ 1 * a := Int.mul_le_mul_of_nonpos_right (by omega) (by omega)
          omega
        · omega
      have q3 : a / b < 0 := Int.ediv_neg_of_neg_of_pos (by omega) pb
      omega
  · have e : a.fdiv b = (-a).fdiv (-b) := (Int.neg_fdiv_neg a b).symm
    rw [e, Int.fdiv_eq_ediv_of_nonneg (-a) (by omega)]
    by_cases pa : 0 ≤ -a
    · have := Int.ediv_le_self (-b) pa
      have := Int.ediv_nonneg pa (by omega : 0 ≤ -b)
      omega
    · have pb' : 0 < -b := by omega
      have q1 : -a ≤ -a / -b := by
        have q2 := Int.lt_mul_ediv_self_add (x := -a) pb'
        by_cases z : -a / -b ≤ -a - 1
        · have : -b * (-a / -b) ≤ -b * (-a - 1) := Int.mul_le_mul_of_nonneg_left z (by omega)
          have e : -b * (-a - 1) = -b * -a - -b := by rw [Int.mul_sub, Int.mul_one]
          have : -b * -a ≤ 1 * -a := Int.mul_le_mul_of_nonpos_right (by omega) (by omega)
          omega
        · omega
      have q3 : -a / -b < 0 := Int.ediv_neg_of_neg_of_pos (by omega) pb'
      omega
theorem near_abs {k : Int} (h : Near k) : k.natAbs < 1099511627776 := by
  obtain ⟨h1, h2⟩ := h
  omega
theorem look_mem {ps : List (Int × Int)} {n m : Int} (h : look ps n = some m) : (n, m) ∈ ps := by
  unfold look at h
  obtain ⟨p, h1, h2⟩ := Option.map_eq_some_iff.mp h
  have := List.mem_of_find?_eq_some h1
  have e := List.find?_some h1
  simp at e
  obtain ⟨a, b⟩ := p
  simp only at e h2
  subst e h2
  exact this
theorem mul_big (a c B : Nat) (h1 : a < B) (h2 : c < 1099511627776) : a * c < B * 2199023255552 :=
  Nat.lt_of_lt_of_le (Nat.mul_lt_mul'' h1 h2) (Nat.mul_le_mul_left B (by decide))
theorem lead_big {s : Stp} {n m : Int} {b : Nat} (hs : s.ok) (hn : n.natAbs < 2 ^ b) (h : lead s n = some m) : m.natAbs < 2 ^ (b + 41) := by
  have p1 : (2 : Nat) ^ (b + 41) = 2 ^ b * 2 ^ 41 := Nat.pow_add 2 b 41
  have p2 : (2 : Nat) ^ 41 = 2199023255552 := by decide
  have p4 : 1 ≤ (2 : Nat) ^ b := Nat.one_le_two_pow
  generalize hB : (2 : Nat) ^ b = B at *
  rw [p1, p2]
  cases s with
  | plus k =>
    have q := near_abs hs
    have h : some (n + k) = some m := h
    injection h with h
    omega
  | times k =>
    have q := near_abs hs.1
    have h : some (n * k) = some m := h
    injection h with h
    rw [← h, Int.natAbs_mul]
    exact mul_big _ _ _ hn q
  | into k =>
    have h : some (n.fdiv k) = some m := h
    injection h with h
    have q : k ≠ 0 := by have := hs.1; omega
    have := fdiv_abs (a := n) q
    omega
  | over k =>
    have h : (if n = 0 then none else some (k.fdiv n)) = some m := h
    by_cases h0 : n = 0
    · rw [if_pos h0] at h; cases h
    · rw [if_neg h0] at h
      injection h with h
      have := fdiv_abs (a := k) h0
      have := near_abs hs
      omega
  | found ps =>
    have := look_mem h
    have := near_abs (hs.2.1 _ this).2
    simp only at this
    omega
/-! ### what never changes stands -/
def imm : HO → Bool
  | .tup _ => true
  | .frz _ _ => true
  | _ => false
def ExI (H H' : Hp) : Prop := ∀ a o, H a = some o → imm o = true → H' a = some o
theorem ExI.of {H H' : Hp} (e : Ex H H') : ExI H H' := fun a o h _ => e a o h
theorem ExI.trans {H H1 H2 : Hp} (a : ExI H H1) (b : ExI H1 H2) : ExI H H2 := fun c o h i => b c o (a c o h i) i
theorem ExI.put {H : Hp} {l : Addr} {u u' : HO} (h : H l = some u) (n : imm u = false) : ExI H (upd H l u') := fun a o q i => by
  rw [upd_ne (fun e => by subst e; rw [h] at q; cases q; rw [n] at i; cases i)]
  exact q
theorem ExI.sq {K : PySem.W.Frag} {H H' : Hp} {a : Addr} {xs : List V} (e : ExI H H') (h : SqT K H a xs) : SqT K H' a xs := by
  rcases h with (h | ⟨o, h⟩) | h
  · exact .inl (.inl (e _ _ h rfl))
  · exact .inl (.inr ⟨o, e _ _ h rfl⟩)
  · exact .inr h
/-! ### how they lie -/
def PairAt (K : PySem.W.Frag) (H : Hp) (p : Addr) (kv : Int × Int) : Prop := SqT K H p [.int kv.1, .int kv.2]
def StpAt (K : PySem.W.Frag) (H : Hp) (v : V) : Stp → Prop
  | .plus k => ∃ a, v = .ref a ∧ SqT K H a [.str "plus", .int k]
  | .times k => ∃ a, v = .ref a ∧ SqT K H a [.str "times", .int k]
  | .into k => ∃ a, v = .ref a ∧ SqT K H a [.str "into", .int k]
  | .over k => ∃ a, v = .ref a ∧ SqT K H a [.str "over", .int k]
  | .found ps => ∃ a c as, v = .ref a ∧ SqT K H a [.str "found", .ref c] ∧ ExT H c (as.map V.ref) ∧ Paired (PairAt K H) as ps
def pairD (kv : Int × Int) : PyData := .tuple [.int kv.1, .int kv.2]
def Stp.data : Stp → PyData
  | .plus k => .tuple [.str "plus", .int k]
  | .times k => .tuple [.str "times", .int k]
  | .into k => .tuple [.str "into", .int k]
  | .over k => .tuple [.str "over", .int k]
  | .found ps => .tuple [.str "found", .tuple (ps.map pairD)]
section
variable {K : PySem.W.Frag} {H H' : Hp}
theorem paired_to {as : List Addr} {ps : List (Int × Int)} (e : Ex H H') (h : Paired (PairAt K H) as ps) : Paired (PairAt K H') as ps :=
  L2.Paired.mapP h fun _ _ q => ex_t e q
theorem StpAt.to {v : V} {s : Stp} (h : StpAt K H v s) (e : Ex H H') : StpAt K H' v s := by
  cases s with
  | found ps =>
    obtain ⟨a, c, as, h1, h2, h3, h4⟩ := h
    exact ⟨a, c, as, h1, ex_t e h2, h3.to e, paired_to e h4⟩
  | _ => obtain ⟨a, h1, h2⟩ := h; exact ⟨a, h1, ex_t e h2⟩
theorem pairs_dp : ∀ {as : List Addr} {ps : List (Int × Int)}, Paired (PairAt K H) as ps → DpAll K H (as.map V.ref) (ps.map pairD)
  | _, _, .nil => .nil
  | _, _, .cons h t => .cons (.tup h (.cons (.int _) (.cons (.int _) .nil))) (pairs_dp t)
theorem StpAt.dp {v : V} {s : Stp} (h : StpAt K H v s) : Dp K H v s.data := by
  cases s with
  | found ps =>
    obtain ⟨a, c, as, rfl, h2, h3, h4⟩ := h
    exact .tup h2 (.cons (.str _) (.cons (.tup h3.sq (pairs_dp h4)) .nil))
  | _ => obtain ⟨a, rfl, h2⟩ := h; exact .tup h2 (.cons (.str _) (.cons (.int _) .nil))
theorem StpAt.toI {v : V} {s : Stp} (h : StpAt K H v s) (e : ExI H H') : StpAt K H' v s := by
  cases s with
  | found ps =>
    obtain ⟨a, c, as, h1, h2, ⟨o, h3, h5⟩, h4⟩ := h
    exact ⟨a, c, as, h1, e.sq h2, ⟨o, e _ _ h3 rfl, h5⟩, L2.Paired.mapP h4 fun _ _ q => e.sq q⟩
  | _ => obtain ⟨a, h1, h2⟩ := h; exact ⟨a, h1, e.sq h2⟩
abbrev StpsAt (K : PySem.W.Frag) (H : Hp) (vs : List V) (ss : List Stp) : Prop := Paired (StpAt K H) vs ss
theorem stps_to {vs : List V} {ss : List Stp} (h : StpsAt K H vs ss) (e : Ex H H') : StpsAt K H' vs ss := L2.Paired.mapP h fun _ _ q => q.to e
theorem stps_toI {vs : List V} {ss : List Stp} (h : StpsAt K H vs ss) (e : ExI H H') : StpsAt K H' vs ss := L2.Paired.mapP h fun _ _ q => q.toI e
theorem stps_dp : ∀ {vs : List V} {ss : List Stp}, StpsAt K H vs ss → DpAll K H vs (ss.map Stp.data)
  | _, _, .nil => .nil
  | _, _, .cons h t => .cons h.dp (stps_dp t)
theorem paired_get {α β : Type} {F : α → β → Prop} : ∀ {xs : List α} {ys : List β}, Paired F xs ys → ∀ {i : Nat} {x : α}, xs[i]? = some x → ∃ y, ys[i]? = some y ∧ F x y
  | _, _, .nil, i, x, e => by simp at e
  | _, _, .cons h t, 0, x, e => by simp at e; subst e; exact ⟨_, by simp, h⟩
  | _, _, .cons h t, i + 1, x, e => by
    obtain ⟨y, q1, q2⟩ := paired_get t (i := i) (by simpa using e)
    exact ⟨y, by simpa using q1, q2⟩
theorem paired_app {α β : Type} {F : α → β → Prop} : ∀ {xs xs' : List α} {ys ys' : List β}, Paired F xs ys → Paired F xs' ys' → Paired F (xs ++ xs') (ys ++ ys')
  | _, _, _, _, .nil, q => q
  | _, _, _, _, .cons h t, q => .cons h (paired_app t q)
theorem paired_take {α β : Type} {F : α → β → Prop} : ∀ (n : Nat) {xs : List α} {ys : List β}, Paired F xs ys → Paired F (xs.take n) (ys.take n)
  | 0, _, _, _ => .nil
  | _ + 1, _, _, .nil => .nil
  | n + 1, _, _, .cons h t => .cons h (paired_take n t)
theorem shaped_pairs : ∀ ps : List (Int × Int), PyData.canLayAll0 (ps.map pairD) = true ∧ PyData.depthAll (ps.map pairD) ≤ 1
  | [] => ⟨rfl, by decide⟩
  | p :: r => by
    obtain ⟨h1, h2⟩ := shaped_pairs r
    refine ⟨?_, ?_⟩
    · simp [PyData.canLayAll0, pairD, PyData.canLay0, h1]
    · simp only [List.map_cons, PyData.depthAll, pairD, PyData.depth] at h2 ⊢
      omega
end
end Gx

set_option Elab.async false
set_option linter.all false
set_option maxRecDepth 100000
set_option maxHeartbeats 2000000
namespace Gx
open PySem PySem.Spec PyProof.Rows L2 Evl
/-! What the helpers of the laws promise. -/
def spOne (K : PySem.W.Frag) : Sp := fun vs H Q _ => ∃ (b l : Addr) (xs : List V), vs = [.ref b, .ref l] ∧ Bag H b ∧ SqL K H l xs ∧
  0 < xs.length ∧ xs.length < 100000 ∧ ∀ x ∈ xs, Q x H
def spNumber : Sp := fun vs H Q _ => ∃ b : Addr, vs = [.ref b] ∧ Bag H b ∧ ∀ x : Int, Near x → ∀ H', Ex H H' → Q (.int x) H'
def spStep (K : PySem.W.Frag) : Sp := fun vs H Q _ => ∃ b : Addr, vs = [.ref b] ∧ Bag H b ∧
  ∀ v s H', Ex H H' → Stp.ok s → StpAt K H' v s → Q v H'
def spSteps (K : PySem.W.Frag) : Sp := fun vs H Q _ => ∃ b : Addr, vs = [.ref b, .int 4] ∧ Bag H b ∧
  ∀ a ws ss H', Ex H H' → ss.length ≤ 4 → (∀ s ∈ ss, Stp.ok s) → ExT H' a ws → StpsAt K H' ws ss → Q (.ref a) H'
theorem if_t {c : Bool} {A B : Prop} (hc : c = true) (h : A) : if c = true then A else B := by rw [if_pos hc]; exact h
theorem if_f {c : Bool} {A B : Prop} (hc : c = false) (h : B) : if c = true then A else B := by
  rw [hc, if_neg Bool.false_ne_true]; exact h
theorem cut_take (xs : List V) (n : Nat) : cutV xs none (some (n : Int)) = xs.take n := by
  unfold cutV
  rw [show HT.sIx xs.length 0 none = 0 from rfl, List.drop_zero, Nat.sub_zero]
  have e : HT.sIx xs.length xs.length (some (n : Int)) = min n xs.length := by
    show (if (n : Int) < 0 then ((n : Int) + xs.length).toNat else min (n : Int).toNat xs.length) = min n xs.length
    rw [if_neg (by omega), Int.toNat_natCast]
  rw [e]
  by_cases q : n ≤ xs.length
  · rw [Nat.min_eq_left q]
  · rw [Nat.min_eq_right (by omega), List.take_length, List.take_of_length_le (by omega)]
theorem sz1 : (1 : Nat) ≤ sizeLine := by decide
theorem sz2 : (2 : Nat) ≤ sizeLine := by decide
theorem sz3 : (3 : Nat) ≤ sizeLine := by decide
theorem sz4 : (4 : Nat) ≤ sizeLine := by decide
theorem sz5 : (5 : Nat) ≤ sizeLine := by decide
theorem small {n : Nat} (h : n ≤ 100000) : n < sizeLine := Nat.lt_of_le_of_lt h (by decide)
theorem p10_12 : (10 : Int) ^ (12 : Int).toNat = 1000000000000 := by decide
theorem p10_11 : (10 : Int) ^ (11 : Int).toNat = 100000000000 := by decide
/-- an item of a short written list -/
theorem item2 {a b : V} {i : Int} (h0 : 0 ≤ i) (h1 : i < 2) : atI [a, b] i = some a ∧ i = 0 ∨ atI [a, b] i = some b ∧ i = 1 := by
  rcases (by omega : i = 0 ∨ i = 1) with rfl | rfl
  · exact .inl ⟨rfl, rfl⟩
  · exact .inr ⟨rfl, rfl⟩
theorem item_in {xs : List V} {i : Int} (h0 : 0 ≤ i) (h1 : i < xs.length) : ∃ v, atI xs i = some v ∧ v ∈ xs := by
  obtain ⟨v, e, m⟩ := get_of h0 h1
  exact ⟨v, atI_of h0 e, m⟩
theorem cp10_12 : CPow 10 12 := ⟨by decide, by decide, by decide⟩
theorem cp10_11 : CPow 10 11 := ⟨by decide, by decide, by decide⟩
end Gx

set_option Elab.async false
set_option linter.all false
set_option maxRecDepth 100000
set_option maxHeartbeats 2000000
namespace Gx
open PySem PySem.Spec PyProof.Rows L2 Evl
/-! An error class of the package with one field: raised, caught, its field read. -/
/-- what the head tells of the class x at C, whose __init__ (the def st, at fI) stores the field fl -/
structure Err (K : PySem.W.Frag) (mg : Str → Option Value) (x qual fl : Str) (ps : List Str) (st : Stmt) (C fI : Addr) (fd : FuncData) : Prop where
  T : OexC K C
  gC : mg x = some (.ref C)
  iC : PySem.W.findIn K (.ref C) "__init__" = some (some (.ref fI))
  tI : PySem.W.typeIn K (.ref fI) = some (.type "function")
  no : PySem.W.findIn K (.ref C) fl = some none
  xf : XfC K C
  te : PySem.W.exmOne K (.ref C) (.ref C) = some true
  fn : Fun K "__init__" qual st fI fd
  bd : Binds K fd ps []
/-- __init__: the field is stored -/
def spInit (C : Addr) (fl : Str) : Sp := fun vs H Q _ => ∃ (a : Addr) (v : V), vs = [.ref a, v] ∧ H a = some (exo a C none) ∧
  ∀ dx, H dx = none → dx ≠ a → Q .non (upd (upd H dx (exd dx [(fl, v)])) a (exo a C (some dx)))
/-- .. and what a raise of it comes to -/
theorem raise_read {C : Addr} {fl : Str} {ta : TA} {σ : L2.St} {H : Hp} {W : XK} {v : V} {H1 : Hp}
    (ha : ∀ Q : List V → Hp → Prop, Q [v] H1 → ta σ H Q)
    (k : ∀ d H', Ex H1 H' → H' d = some (.xd [(fl, v)]) → W (.ref C) (some d) H') :
    tMkO C (spInit C fl) [] ta σ H W := by
  refine ha _ ⟨by show 1 ≤ 1000; decide, fun a na => ⟨a, v, rfl, upd_same, fun dx nd nda => ⟨rfl, dx, [(fl, v)], upd_same, ?_, ?_, ?_⟩⟩⟩
  · rw [upd_ne nda]; exact upd_same
  · rw [upd_ne nda] at nd; exact nd
  · have nd' : H1 dx = none := by rw [upd_ne nda] at nd; exact nd
    refine k dx _ (fun c o e => ?_) upd_same
    have c1 : c ≠ dx := ne_of_none e nd'
    have c2 : c ≠ a := ne_of_none e na
    rw [upd_ne c1, del_ne c2, upd_ne c2, upd_ne c1, upd_ne c2]
    exact e
/-- the field of the caught error -/
theorem field_read {C a d : Addr} {fl : Str} {v : V} {te : TE} {σ : L2.St} {H : Hp} {Q : VK}
    (ht : ∀ Q : VK, Q (.ref a) H → te σ H Q) (hd : H d = some (.xd [(fl, v)])) (q : Q v H) : tXf a (.ref C) (some d) C fl te σ H Q :=
  ht _ ⟨rfl, rfl, d, _, v, rfl, hd, by simp [List.lookup], q⟩
/-- a tuple's item where the context is another than the written part's -/
theorem ix_tupK {X : Cx} {K : PySem.W.Frag} (h : X.K = K) : IxR X (rIxT K) := by rw [← h]; exact ix_tup
end Gx

set_option Elab.async false
set_option linter.all false
set_option maxRecDepth 100000
set_option maxHeartbeats 2000000
namespace Gx
open PySem PySem.Spec PyProof.Rows L2 Evl
/-! A list times a number. -/
def rRepL (K : PySem.W.Frag) : R2 := fun x y H Q => ∃ (l : Addr) (k : Int) (xs : List V), x = .ref l ∧ y = .int k ∧ SqL K H l xs ∧
  0 ≤ k ∧ k ≤ 100000 ∧ xs.length ≤ 100 ∧ ∀ p, H p = none → Q (.ref p) (upd H p (.lst (List.replicate k.toNat xs).flatten))
theorem flat_rep (its : List Value) (m : Nat) :
    List.foldl (fun x1 x2 => x1 ++ x2) #[] (List.replicate m its.toArray) = (List.replicate m its).flatten.toArray := by
  have go : ∀ (m : Nat) (acc : List Value), List.foldl (fun x1 x2 => x1 ++ x2) acc.toArray (List.replicate m its.toArray) = (acc ++ (List.replicate m its).flatten).toArray := by
    intro m
    induction m with
    | zero => intro acc; simp
    | succ m ih =>
      intro acc
      rw [List.replicate_succ, List.foldl_cons, List.append_toArray, ih, List.replicate_succ, List.flatten_cons, List.append_assoc]
  simpa using go m []
section
variable {X : Cx}
theorem op_repL : OpR X (binaryOp .Mult) (rRepL X.K) := by
  intro pins s σ H x y v u Q I rx ry h
  obtain ⟨l, k, xs, rfl, rfl, hs, k0, kb, hx, q⟩ := h
  obtain rfl : v = Value.ref l := rx
  obtain ⟨t, rfl⟩ := ry
  obtain ⟨its, r', ⟨o, n, ho, hc, hd, hdat⟩, hz⟩ := I.list hs
  have hl := r'.length
  obtain ⟨oc, od, odat, osl⟩ := o
  simp only at hc hd hdat
  subst hc hd hdat
  have ty : s.TypeIs (.ref l) "list" := ⟨_, ho, rfl⟩
  have kn : its.length * k.toNat ≤ 10000000 := Nat.le_trans (Nat.mul_le_mul (show its.length ≤ 100 by omega) (show k.toNat ≤ 100000 by omega)) (by decide)
  refine wpAny_binaryOp_repeat_ref (T := "list") (U := "int") (by decide) ty (fun s' => typeIs_int s' k t) noFill_list_mul F.fills_int_mul F.slot_int_rmul repeat_list F.slot_int_index.lookup ?_
  refine call_meets F.slot_int_rmul (typeIs_int s k t) F.entry_int_rmul (F.args_int_rmul_2 _ _) (lm_int_rmul_list_any k t l its.toArray n none osl) ⟨ho, rfl, ty, ?_⟩
  have bad : Builtin.List.listTooLong (its.toArray.size * k.toNat) = false := by
    refine decide_eq_false ?_
    rw [List.size_toArray, sizeLine_eq]
    omega
  refine call_meets F.slot_list_mul ty F.entry_list_mul (F.args_list_mul_2 _ _) (lm_list_mul_any l its.toArray n none osl k t ?_ ?_ (by rw [bad]; exact Bool.false_ne_true)) ⟨ho, ?_⟩
  · have e : Builtin.List.listFitsIndex k = true := by
      unfold Builtin.List.listFitsIndex
      rw [Bool.and_eq_true]
      exact ⟨decide_eq_true (by omega), decide_eq_true (by omega)⟩
    rw [e]; decide
  · rw [List.size_toArray]; omega
  · have e : List.foldl (fun x1 x2 => x1 ++ x2) #[] (List.replicate (if its.toArray.isEmpty = true then 0 else k.toNat) its.toArray) = (List.replicate k.toNat its).flatten.toArray := by
      cases its with
      | nil => simp
      | cons a r => rw [if_neg (by simp)]; exact flat_rep _ _
    rw [e]
    have ln : (List.replicate k.toNat xs).flatten.length ≤ sizeLine := by
      rw [lm_len_rep_flat, hl, sizeLine_eq, Nat.mul_comm]
      omega
    have hn : H s.heap.objs.size = none := I.hok.fresh (Nat.le_refl _)
    have I2 := I.laid (t' := s.toks) (a := s.heap.objs.size) (o := .lst (List.replicate k.toNat xs).flatten)
      (h' := s.heap.push { cls := .type "list", data := .seq (List.replicate k.toNat its).flatten.toArray }) (fun b o e => Heap.get?_push_of_some _ e) (Nat.le_refl _)
      ⟨?_, ?_⟩
    · exact ⟨.ref s.heap.objs.size, _, I2, rfl, q _ hn⟩
    · exact ln
    · exact ⟨_, _, r'.rep k.toNat, Heap.get?_push_size _ rfl⟩
/-- a list's item where the context is another than the written part's -/
theorem ix_listK {K : PySem.W.Frag} (h : X.K = K) : IxR X (rIxL K) := by rw [← h]; exact ix_list
end
theorem takeS {α : Type} {l : List α} {j : Nat} {x : α} (h : l[j]? = some x) : l.take (j + 1) = l.take j ++ [x] := by
  rw [List.take_add_one, h]
  rfl
end Gx

set_option Elab.async false
set_option linter.all false
set_option maxRecDepth 100000
set_option maxHeartbeats 4000000
namespace Gx
open PySem PySem.Spec PyProof.Rows L2 Evl
/-! Conditions: what they are, how they lie in the heap. -/
inductive Leaf where
  | always (w : Str) | empty (n : Str) | number (n : Str) | asks (n : Str) (ss : List Stp) (sg : Str) (k : Int)
inductive Cnd where
  | leaf (l : Leaf)
  | not (c : Cnd)
  | node (k : Str) (cs : List Cnd)
  | case (ws ts : List Cnd) (e : Cnd)
def Leaf.data : Leaf → PyData
  | .always w => .tuple [.str "always", .str w]
  | .empty n => .tuple [.str "empty", .str n]
  | .number n => .tuple [.str "number", .str n]
  | .asks n ss sg k => .tuple [.str "asks", .str n, .tuple (ss.map Stp.data), .str sg, .int k]
def pairL : List PyData → List PyData → List PyData
  | a :: as, b :: bs => .tuple [a, b] :: pairL as bs
  | _, _ => []
mutual
def Cnd.data : Cnd → PyData
  | .leaf l => l.data
  | .not c => .tuple [.str "not", c.data]
  | .node k cs => .tuple [.str k, .tuple (Cnd.dataL cs)]
  | .case ws ts e => .tuple [.str "case", .tuple (pairL (Cnd.dataL ws) (Cnd.dataL ts)), e.data]
def Cnd.dataL : List Cnd → List PyData
  | [] => []
  | c :: cs => c.data :: Cnd.dataL cs
end
def sgns : List Str := ["<", "<=", "<>", "=", ">", ">="]
def words : List Str := ["error", "no", "unknown", "yes"]
def kinds : List Str := ["all", "any", "first"]
def Leaf.ok (ns : List Str) : Leaf → Prop
  | .always w => w ∈ words
  | .empty n => n ∈ ns
  | .number n => n ∈ ns
  | .asks n ss sg k => n ∈ ns ∧ (∀ s ∈ ss, Stp.ok s) ∧ ss.length ≤ 4 ∧ sg ∈ sgns ∧ Near k
mutual
def Cnd.ok (ns : List Str) : Cnd → Prop
  | .leaf l => l.ok ns
  | .not c => c.ok ns
  | .node k cs => k ∈ kinds ∧ Cnd.okL ns cs
  | .case ws ts e => ws.length = ts.length ∧ Cnd.okL ns ws ∧ Cnd.okL ns ts ∧ e.ok ns
def Cnd.okL (ns : List Str) : List Cnd → Prop
  | [] => True
  | c :: cs => c.ok ns ∧ Cnd.okL ns cs
end
mutual
def Cnd.depth : Cnd → Nat
  | .leaf _ => 0
  | .not c => c.depth + 1
  | .node _ cs => Cnd.depthL cs + 1
  | .case ws ts e => max (max (Cnd.depthL ws) (Cnd.depthL ts)) e.depth + 1
def Cnd.depthL : List Cnd → Nat
  | [] => 0
  | c :: cs => max c.depth (Cnd.depthL cs)
end
mutual
def Cnd.weight : Cnd → Nat
  | .leaf _ => 200000
  | .not c => c.weight + 40
  | .node _ cs => Cnd.weightL cs + 40
  | .case ws ts e => Cnd.weightL ws + Cnd.weightL ts + e.weight + 40
def Cnd.weightL : List Cnd → Nat
  | [] => 0
  | c :: cs => c.weight + Cnd.weightL cs + 20
end
theorem Cnd.okL_iff {ns : List Str} : ∀ {cs : List Cnd}, Cnd.okL ns cs ↔ ∀ c ∈ cs, c.ok ns
  | [] => by simp [Cnd.okL]
  | c :: cs => by
    rw [Cnd.okL, Cnd.okL_iff (cs := cs)]
    simp
theorem Cnd.depthL_le {n : Nat} : ∀ {cs : List Cnd}, Cnd.depthL cs ≤ n ↔ ∀ c ∈ cs, c.depth ≤ n
  | [] => by simp [Cnd.depthL]
  | c :: cs => by
    rw [Cnd.depthL, Nat.max_le, Cnd.depthL_le (cs := cs)]
    simp
theorem Cnd.dataL_map : ∀ cs : List Cnd, Cnd.dataL cs = cs.map Cnd.data
  | [] => rfl
  | c :: cs => by rw [Cnd.dataL, Cnd.dataL_map cs]; rfl
/-! ### in the heap -/
def Zip3 (K : PySem.W.Frag) (H : Hp) : List Addr → List V → List V → Prop
  | [], [], [] => True
  | q :: qs, x :: xs, y :: ys => SqT K H q [x, y] ∧ Zip3 K H qs xs ys
  | _, _, _ => False
def LeafAt (K : PySem.W.Frag) (H : Hp) (v : V) : Leaf → Prop
  | .always w => ∃ a, v = .ref a ∧ SqT K H a [.str "always", .str w]
  | .empty n => ∃ a, v = .ref a ∧ SqT K H a [.str "empty", .str n]
  | .number n => ∃ a, v = .ref a ∧ SqT K H a [.str "number", .str n]
  | .asks n ss sg k => ∃ a b ws, v = .ref a ∧ SqT K H a [.str "asks", .str n, .ref b, .str sg, .int k] ∧ SqT K H b ws ∧ StpsAt K H ws ss
mutual
def CndAt (K : PySem.W.Frag) (H : Hp) : V → Cnd → Prop
  | v, .leaf l => LeafAt K H v l
  | v, .not c => ∃ a x, v = .ref a ∧ SqT K H a [.str "not", x] ∧ CndAt K H x c
  | v, .node k cs => ∃ a b xs, v = .ref a ∧ SqT K H a [.str k, .ref b] ∧ SqT K H b xs ∧ CndsAt K H xs cs
  | v, .case ws ts e => ∃ a b qs xs ys y, v = .ref a ∧ SqT K H a [.str "case", .ref b, y] ∧ SqT K H b (qs.map V.ref) ∧ Zip3 K H qs xs ys ∧
      CndsAt K H xs ws ∧ CndsAt K H ys ts ∧ CndAt K H y e
def CndsAt (K : PySem.W.Frag) (H : Hp) : List V → List Cnd → Prop
  | xs, [] => xs = []
  | xs, c :: cs => ∃ x r, xs = x :: r ∧ CndAt K H x c ∧ CndsAt K H r cs
end
section
variable {K : PySem.W.Frag} {H H' : Hp}
theorem zip3_toI (e : ExI H H') : ∀ {qs : List Addr} {xs ys : List V}, Zip3 K H qs xs ys → Zip3 K H' qs xs ys
  | [], [], [], h => trivial
  | _ :: _, _ :: _, _ :: _, h => ⟨e.sq h.1, zip3_toI e h.2⟩
  | [], _ :: _, _, h => h.elim
  | [], [], _ :: _, h => h.elim
  | _ :: _, [], _, h => h.elim
  | _ :: _, _ :: _, [], h => h.elim
theorem leafAt_toI {v : V} {l : Leaf} (e : ExI H H') (h : LeafAt K H v l) : LeafAt K H' v l := by
  cases l with
  | asks n ss sg k =>
    obtain ⟨a, b, ws, h1, h2, h3, h4⟩ := h
    exact ⟨a, b, ws, h1, e.sq h2, e.sq h3, stps_toI h4 e⟩
  | _ => obtain ⟨a, h1, h2⟩ := h; exact ⟨a, h1, e.sq h2⟩
mutual
theorem cndAt_toI (e : ExI H H') : ∀ (c : Cnd) (v : V), CndAt K H v c → CndAt K H' v c
  | .leaf l, v, h => leafAt_toI e h
  | .not c, v, ⟨a, x, h1, h2, h3⟩ => ⟨a, x, h1, e.sq h2, cndAt_toI e c x h3⟩
  | .node k cs, v, ⟨a, b, xs, h1, h2, h3, h4⟩ => ⟨a, b, xs, h1, e.sq h2, e.sq h3, cndsAt_toI e cs xs h4⟩
  | .case ws ts el, v, ⟨a, b, qs, xs, ys, y, h1, h2, h3, h4, h5, h6, h7⟩ =>
    ⟨a, b, qs, xs, ys, y, h1, e.sq h2, e.sq h3, zip3_toI e h4, cndsAt_toI e ws xs h5, cndsAt_toI e ts ys h6, cndAt_toI e el y h7⟩
theorem cndsAt_toI (e : ExI H H') : ∀ (cs : List Cnd) (xs : List V), CndsAt K H xs cs → CndsAt K H' xs cs
  | [], xs, h => h
  | c :: cs, xs, ⟨x, r, h1, h2, h3⟩ => ⟨x, r, h1, cndAt_toI e c x h2, cndsAt_toI e cs r h3⟩
end
theorem CndAt.to {v : V} {c : Cnd} (h : CndAt K H v c) (e : Ex H H') : CndAt K H' v c := cndAt_toI (ExI.of e) c v h
theorem CndsAt.to {vs : List V} {cs : List Cnd} (h : CndsAt K H vs cs) (e : Ex H H') : CndsAt K H' vs cs := cndsAt_toI (ExI.of e) cs vs h
theorem zip3_dp : ∀ {qs : List Addr} {xs ys : List V} {as bs : List PyData}, Zip3 K H qs xs ys → DpAll K H xs as → DpAll K H ys bs → DpAll K H (qs.map V.ref) (pairL as bs)
  | [], [], [], _, _, _, .nil, .nil => .nil
  | q :: qs, x :: xs, y :: ys, _, _, h, .cons h1 h2, .cons h3 h4 => .cons (.tup h.1 (.cons h1 (.cons h3 .nil))) (zip3_dp h.2 h2 h4)
  | [], _ :: _, _, _, _, h, _, _ => h.elim
  | [], [], _ :: _, _, _, h, _, _ => h.elim
  | _ :: _, [], _, _, _, h, _, _ => h.elim
  | _ :: _, _ :: _, [], _, _, h, _, _ => h.elim
theorem leafAt_dp {v : V} {l : Leaf} (h : LeafAt K H v l) : Dp K H v l.data := by
  cases l with
  | asks n ss sg k =>
    obtain ⟨a, b, ws, rfl, h2, h3, h4⟩ := h
    exact .tup h2 (.cons (.str _) (.cons (.str _) (.cons (.tup h3 (stps_dp h4)) (.cons (.str _) (.cons (.int _) .nil)))))
  | _ => obtain ⟨a, rfl, h2⟩ := h; exact .tup h2 (.cons (.str _) (.cons (.str _) .nil))
mutual
theorem cndAt_dp : ∀ (c : Cnd) (v : V), CndAt K H v c → Dp K H v c.data
  | .leaf l, v, h => leafAt_dp h
  | .not c, v, ⟨a, x, h1, h2, h3⟩ => by subst h1; exact .tup h2 (.cons (.str _) (.cons (cndAt_dp c x h3) .nil))
  | .node k cs, v, ⟨a, b, xs, h1, h2, h3, h4⟩ => by subst h1; exact .tup h2 (.cons (.str _) (.cons (.tup h3 (cndsAt_dp cs xs h4)) .nil))
  | .case ws ts el, v, ⟨a, b, qs, xs, ys, y, h1, h2, h3, h4, h5, h6, h7⟩ => by
    subst h1
    exact .tup h2 (.cons (.str _) (.cons (.tup h3 (zip3_dp h4 (cndsAt_dp ws xs h5) (cndsAt_dp ts ys h6))) (.cons (cndAt_dp el y h7) .nil)))
theorem cndsAt_dp : ∀ (cs : List Cnd) (xs : List V), CndsAt K H xs cs → DpAll K H xs (Cnd.dataL cs)
  | [], xs, h => by subst h; exact .nil
  | c :: cs, xs, ⟨x, r, h1, h2, h3⟩ => by subst h1; exact .cons (cndAt_dp c x h2) (cndsAt_dp cs r h3)
end
theorem CndAt.dp {v : V} {c : Cnd} (h : CndAt K H v c) : Dp K H v c.data := cndAt_dp c v h
theorem cnds_len : ∀ {cs : List Cnd} {xs : List V}, CndsAt K H xs cs → xs.length = cs.length
  | [], xs, h => by subst h; rfl
  | c :: cs, xs, ⟨x, r, h1, h2, h3⟩ => by subst h1; simp [cnds_len h3]
theorem cnds_get : ∀ {cs : List Cnd} {xs : List V} {i : Nat} {x : V}, CndsAt K H xs cs → xs[i]? = some x → ∃ c, cs[i]? = some c ∧ CndAt K H x c
  | [], xs, i, x, h, e => by subst h; simp at e
  | c :: cs, xs, i, x, ⟨y, r, h1, h2, h3⟩, e => by
    subst h1
    cases i with
    | zero => simp at e; subst e; exact ⟨c, by simp, h2⟩
    | succ i =>
      obtain ⟨d, q1, q2⟩ := cnds_get (i := i) h3 (by simpa using e)
      exact ⟨d, by simpa using q1, q2⟩
theorem cnds_app : ∀ {cs ds : List Cnd} {xs ys : List V}, CndsAt K H xs cs → CndsAt K H ys ds → CndsAt K H (xs ++ ys) (cs ++ ds)
  | [], ds, xs, ys, h, h' => by subst h; exact h'
  | c :: cs, ds, xs, ys, ⟨y, r, h1, h2, h3⟩, h' => by subst h1; exact ⟨y, r ++ ys, rfl, h2, cnds_app h3 h'⟩
theorem cnds_one {x : V} {c : Cnd} (h : CndAt K H x c) : CndsAt K H [x] [c] := ⟨x, [], rfl, h, rfl⟩
theorem zip3_len : ∀ {qs : List Addr} {xs ys : List V}, Zip3 K H qs xs ys → qs.length = xs.length ∧ xs.length = ys.length
  | [], [], [], _ => ⟨rfl, rfl⟩
  | _ :: qs, _ :: xs, _ :: ys, h => by obtain ⟨a, b⟩ := zip3_len h.2; simp [a, b]
  | [], _ :: _, _, h => h.elim
  | [], [], _ :: _, h => h.elim
  | _ :: _, [], _, h => h.elim
  | _ :: _, _ :: _, [], h => h.elim
theorem zip3_get : ∀ {qs : List Addr} {xs ys : List V} {i : Nat} {q : V}, Zip3 K H qs xs ys → (qs.map V.ref)[i]? = some q →
    ∃ p x y, q = .ref p ∧ xs[i]? = some x ∧ ys[i]? = some y ∧ SqT K H p [x, y]
  | [], [], [], i, q, h, e => by simp at e
  | q' :: qs, x' :: xs, y' :: ys, i, q, h, e => by
    cases i with
    | zero => simp at e; subst e; exact ⟨q', x', y', rfl, by simp, by simp, h.1⟩
    | succ i =>
      obtain ⟨p, x, y, e1, e2, e3, e4⟩ := zip3_get (i := i) h.2 (by simpa using e)
      exact ⟨p, x, y, e1, by simpa using e2, by simpa using e3, e4⟩
  | [], _ :: _, _, _, _, h, _ => h.elim
  | [], [], _ :: _, _, _, h, _ => h.elim
  | _ :: _, [], _, _, _, h, _ => h.elim
  | _ :: _, _ :: _, [], _, _, h, _ => h.elim
end
end Gx

set_option Elab.async false
set_option linter.all false
set_option maxRecDepth 100000
set_option maxHeartbeats 4000000
namespace Gx
open PySem PySem.Spec PyProof.Rows L2 Evl
/-! Conditions can be laid, shown, and are not too long to be shown. -/
/-- what data must keep so that it can be compared and shown -/
structure Fit (d : PyData) (n m : Nat) : Prop where
  lay : PyData.canLay0 d = true
  deep : d.depth ≤ n
  show_ : d.showable = true
  wide : wide d ≤ m
structure FitL (ds : List PyData) (n m : Nat) : Prop where
  lay : PyData.canLayAll0 ds = true
  deep : PyData.depthAll ds ≤ n
  show_ : PyData.showableAll ds = true
  wide : wide.wideAll ds ≤ m
theorem Fit.mono {d : PyData} {n m n' m' : Nat} (h : Fit d n m) (a : n ≤ n') (b : m ≤ m') : Fit d n' m' := ⟨h.lay, Nat.le_trans h.deep a, h.show_, Nat.le_trans h.wide b⟩
theorem FitL.mono {d : List PyData} {n m n' m' : Nat} (h : FitL d n m) (a : n ≤ n') (b : m ≤ m') : FitL d n' m' := ⟨h.lay, Nat.le_trans h.deep a, h.show_, Nat.le_trans h.wide b⟩
theorem fit_nil (n : Nat) : FitL [] n 0 := ⟨rfl, Nat.zero_le _, rfl, Nat.le_refl _⟩
theorem fit_cons {d : PyData} {ds : List PyData} {n m k : Nat} (h : Fit d n m) (t : FitL ds n k) : FitL (d :: ds) n (m + 2 + k) := by
  refine ⟨?_, ?_, ?_, ?_⟩
  · simp [PyData.canLayAll0, h.lay, t.lay]
  · simp only [PyData.depthAll]; have := h.deep; have := t.deep; omega
  · simp [PyData.showableAll, h.show_, t.show_]
  · simp only [wide.wideAll]; have := h.wide; have := t.wide; omega
theorem fit_tup {ds : List PyData} {n m : Nat} (t : FitL ds n m) : Fit (.tuple ds) (n + 1) (m + 3) := by
  refine ⟨?_, ?_, ?_, ?_⟩
  · simp [PyData.canLay0, t.lay]
  · simp only [PyData.depth]; have := t.deep; omega
  · simp [PyData.showable, t.show_]
  · simp only [Gx.wide]; have := t.wide; omega
theorem fit_lst {ds : List PyData} {n m : Nat} (t : FitL ds n m) : Fit (.list ds) (n + 1) (m + 2) := by
  refine ⟨?_, ?_, ?_, ?_⟩
  · simp [PyData.canLay0, t.lay]
  · simp only [PyData.depth]; have := t.deep; omega
  · simp [PyData.showable, t.show_]
  · simp only [Gx.wide]; have := t.wide; omega
theorem fit_int {i : Int} (h : Near i) : Fit (.int i) 0 1921 := by
  refine ⟨by simp [PyData.canLay0], by simp [PyData.depth], ?_, by simp [Gx.wide]⟩
  simp only [PyData.showable]
  have b := near_abs h
  refine decide_eq_true ?_
  by_cases h0 : i.natAbs = 0
  · rw [h0]; decide
  · have := (Nat.log2_lt h0 (k := 40)).mpr (by rw [show (2 : Nat) ^ 40 = 1099511627776 by decide]; exact b)
    omega
structure Nm (n : Str) : Prop where
  ok : PyData.strOk n = true
  short : (reprText n).length ≤ 100
theorem fit_str {x : Str} (h : Nm x) : Fit (.str x) 0 100 := ⟨by simp [PyData.canLay0, h.ok], by simp [PyData.depth], by simp [PyData.showable], by simp only [Gx.wide]; exact h.short⟩
theorem nm_plus : Nm "plus" := ⟨by decide +kernel, by decide +kernel⟩
theorem nm_times : Nm "times" := ⟨by decide +kernel, by decide +kernel⟩
theorem nm_into : Nm "into" := ⟨by decide +kernel, by decide +kernel⟩
theorem nm_over : Nm "over" := ⟨by decide +kernel, by decide +kernel⟩
theorem nm_found : Nm "found" := ⟨by decide +kernel, by decide +kernel⟩
theorem nm_always : Nm "always" := ⟨by decide +kernel, by decide +kernel⟩
theorem nm_empty : Nm "empty" := ⟨by decide +kernel, by decide +kernel⟩
theorem nm_number : Nm "number" := ⟨by decide +kernel, by decide +kernel⟩
theorem nm_asks : Nm "asks" := ⟨by decide +kernel, by decide +kernel⟩
theorem nm_not : Nm "not" := ⟨by decide +kernel, by decide +kernel⟩
theorem nm_case : Nm "case" := ⟨by decide +kernel, by decide +kernel⟩
theorem nm_sign {x : Str} (h : x ∈ sgns) : Nm x := by
  have : ∀ x ∈ sgns, PyData.strOk x = true ∧ (reprText x).length ≤ 100 := by decide +kernel
  exact ⟨(this x h).1, (this x h).2⟩
theorem nm_word {x : Str} (h : x ∈ words) : Nm x := by
  have : ∀ x ∈ words, PyData.strOk x = true ∧ (reprText x).length ≤ 100 := by decide +kernel
  exact ⟨(this x h).1, (this x h).2⟩
theorem nm_kind {x : Str} (h : x ∈ kinds) : Nm x := by
  have : ∀ x ∈ kinds, PyData.strOk x = true ∧ (reprText x).length ≤ 100 := by decide +kernel
  exact ⟨(this x h).1, (this x h).2⟩
theorem fit_pair {x y : PyData} {n m k : Nat} (h : Fit x n m) (h' : Fit y n k) : Fit (.tuple [x, y]) (n + 1) (m + k + 7) :=
  (fit_tup (fit_cons h (fit_cons h' (fit_nil n)))).mono (Nat.le_refl _) (by omega)
theorem fit_pairs : ∀ {ps : List (Int × Int)}, (∀ p ∈ ps, Near p.1 ∧ Near p.2) → FitL (ps.map pairD) 1 (3860 * ps.length)
  | [], _ => fit_nil 1
  | p :: ps, h => by
    have h1 := h p List.mem_cons_self
    have t := fit_pairs (ps := ps) fun q hq => h q (List.mem_cons_of_mem _ hq)
    rw [List.map_cons, List.length_cons]
    exact (fit_cons (fit_pair (fit_int h1.1) (fit_int h1.2)) t).mono (Nat.le_refl _) (by omega)
theorem fit_step {s : Stp} (h : s.ok) : Fit s.data 3 31100 := by
  cases s with
  | found ps =>
    obtain ⟨_, h2, h3⟩ := h
    have t := fit_tup (fit_pairs h2)
    exact (fit_pair (fit_str nm_found |>.mono (Nat.zero_le 2) (Nat.le_refl _)) t).mono (Nat.le_refl _) (by omega)
  | plus k => exact (fit_pair (fit_str nm_plus) (fit_int h)).mono (by omega) (by omega)
  | times k => exact (fit_pair (fit_str nm_times) (fit_int h.1)).mono (by omega) (by omega)
  | into k => exact (fit_pair (fit_str nm_into) (fit_int ⟨by have := h.1; omega, h.2⟩)).mono (by omega) (by omega)
  | over k => exact (fit_pair (fit_str nm_over) (fit_int h)).mono (by omega) (by omega)
theorem fit_steps : ∀ {ss : List Stp}, (∀ s ∈ ss, Stp.ok s) → FitL (ss.map Stp.data) 3 (31102 * ss.length)
  | [], _ => fit_nil 3
  | s :: ss, h => by
    have t := fit_steps (ss := ss) fun q hq => h q (List.mem_cons_of_mem _ hq)
    rw [List.map_cons, List.length_cons]
    exact (fit_cons (fit_step (h s List.mem_cons_self)) t).mono (Nat.le_refl _) (by omega)
theorem fit_leaf {ns : List Str} (hn : ∀ n ∈ ns, Nm n) {l : Leaf} (h : l.ok ns) : Fit l.data 6 200000 := by
  cases l with
  | always w => exact (fit_pair (fit_str nm_always) (fit_str (nm_word h))).mono (by omega) (by omega)
  | empty n => exact (fit_pair (fit_str nm_empty) (fit_str (hn n h))).mono (by omega) (by omega)
  | number n => exact (fit_pair (fit_str nm_number) (fit_str (hn n h))).mono (by omega) (by omega)
  | asks n ss sg k =>
    obtain ⟨h1, h2, h3, h4, h5⟩ := h
    have z : 0 ≤ 4 := Nat.zero_le 4
    have t := fit_tup (fit_steps h2)
    exact (fit_tup (fit_cons ((fit_str nm_asks).mono z (Nat.le_refl _)) (fit_cons ((fit_str (hn n h1)).mono z (Nat.le_refl _)) (fit_cons t
      (fit_cons ((fit_str (nm_sign h4)).mono z (Nat.le_refl _)) (fit_cons ((fit_int h5).mono z (Nat.le_refl _)) (fit_nil 4))))))).mono (by omega) (by omega)
theorem fit_pairL : ∀ {as bs : List PyData} {n m k : Nat}, FitL as n m → FitL bs n k → as.length = bs.length → FitL (pairL as bs) (n + 1) (m + k + 20 * as.length)
  | [], [], n, m, k, _, _, _ => (fit_nil _).mono (Nat.le_refl _) (Nat.zero_le _)
  | a :: as, b :: bs, n, m, k, h, h', hl => by
    have s1 := h.lay
    have s2 := h'.lay
    have d1 := h.deep
    have d2 := h'.deep
    have w1 := h.wide
    have w2 := h'.wide
    have v1 := h.show_
    have v2 := h'.show_
    simp only [PyData.canLayAll0, Bool.and_eq_true] at s1 s2
    simp only [PyData.depthAll, Nat.max_le] at d1 d2
    simp only [wide.wideAll] at w1 w2
    simp only [PyData.showableAll, Bool.and_eq_true] at v1 v2
    have t := fit_pairL (as := as) (bs := bs) ⟨s1.2, d1.2, v1.2, Nat.le_refl _⟩ ⟨s2.2, d2.2, v2.2, Nat.le_refl _⟩ (by simpa using hl)
    have p := fit_pair (⟨s1.1, d1.1, v1.1, Nat.le_refl _⟩ : Fit a n _) (⟨s2.1, d2.1, v2.1, Nat.le_refl _⟩ : Fit b n _)
    rw [pairL, List.length_cons]
    exact (fit_cons p t).mono (Nat.le_refl _) (by omega)
  | [], _ :: _, _, _, _, _, _, hl => by simp at hl
  | _ :: _, [], _, _, _, _, _, hl => by simp at hl
theorem weightL_len : ∀ cs : List Cnd, 20 * cs.length ≤ Cnd.weightL cs
  | [] => by simp [Cnd.weightL]
  | c :: cs => by have := weightL_len cs; rw [Cnd.weightL, List.length_cons]; omega
mutual
theorem fit_cnd {ns : List Str} (hn : ∀ n ∈ ns, Nm n) : ∀ (c : Cnd), c.ok ns → Fit c.data (3 * c.depth + 6) (c.weight)
  | .leaf l, h => by rw [Cnd.data, Cnd.weight]; exact (fit_leaf hn h).mono (by omega) (Nat.le_refl _)
  | .not c, h => by
    rw [Cnd.data, Cnd.weight, Cnd.depth]
    have t := fit_cnd hn c (by rw [Cnd.ok] at h; exact h)
    have e := fit_tup (fit_cons ((fit_str nm_not).mono (Nat.zero_le _) (Nat.le_refl _)) (fit_cons t (fit_nil _)))
    have e1 : wide (.str "not") ≤ 6 := by decide +kernel
    refine ⟨e.lay, Nat.le_trans e.deep (by omega), e.show_, ?_⟩
    simp only [Gx.wide, wide.wideAll] at e1 ⊢
    have := t.wide
    omega
  | .node k cs, h => by
    rw [Cnd.data, Cnd.weight, Cnd.depth]
    rw [Cnd.ok] at h
    have t := fit_cnds hn cs h.2
    have e := fit_tup (fit_cons ((fit_str (nm_kind h.1)).mono (Nat.zero_le _) (Nat.le_refl _)) (fit_cons (fit_tup t) (fit_nil _)))
    have e1 : wide (.str k) ≤ 7 := by
      have : ∀ k ∈ kinds, wide (.str k) ≤ 7 := by decide +kernel
      exact this k h.1
    refine ⟨e.lay, Nat.le_trans e.deep (by omega), e.show_, ?_⟩
    simp only [Gx.wide, wide.wideAll] at e1 ⊢
    have := t.wide
    omega
  | .case ws ts el, h => by
    rw [Cnd.data, Cnd.weight, Cnd.depth]
    rw [Cnd.ok] at h
    obtain ⟨h1, h2, h3, h4⟩ := h
    have t1 := fit_cnds hn ws h2
    have t2 := fit_cnds hn ts h3
    have t3 := fit_cnd hn el h4
    generalize hD : max (max (Cnd.depthL ws) (Cnd.depthL ts)) el.depth = D
    have q1 : Cnd.depthL ws ≤ D := by omega
    have q2 : Cnd.depthL ts ≤ D := by omega
    have q3 : el.depth ≤ D := by omega
    have l1 : (Cnd.dataL ws).length = ws.length := by rw [Cnd.dataL_map, List.length_map]
    have l2 : (Cnd.dataL ts).length = ts.length := by rw [Cnd.dataL_map, List.length_map]
    have p := fit_pairL (t1.mono (n' := 3 * D + 6) (by omega) (Nat.le_refl _)) (t2.mono (n' := 3 * D + 6) (by omega) (Nat.le_refl _)) (by rw [l1, l2, h1])
    have e := fit_tup (fit_cons ((fit_str nm_case).mono (Nat.zero_le _) (Nat.le_refl _)) (fit_cons (fit_tup p) (fit_cons (t3.mono (n' := 3 * D + 6 + 1 + 1) (by omega) (Nat.le_refl _)) (fit_nil _))))
    have e1 : wide (.str "case") ≤ 6 := by decide +kernel
    refine ⟨e.lay, Nat.le_trans e.deep (by omega), e.show_, ?_⟩
    have p1 := p.wide
    rw [l1] at p1
    have g3 := t3.wide
    have g4 := weightL_len ws
    have g5 := weightL_len ts
    simp only [Gx.wide, wide.wideAll] at e1 ⊢
    omega
theorem fit_cnds {ns : List Str} (hn : ∀ n ∈ ns, Nm n) : ∀ (cs : List Cnd), Cnd.okL ns cs → FitL (Cnd.dataL cs) (3 * Cnd.depthL cs + 6) (Cnd.weightL cs - 18 * cs.length)
  | [], _ => by rw [Cnd.dataL, Cnd.weightL]; exact (fit_nil _)
  | c :: cs, h => by
    rw [Cnd.okL] at h
    rw [Cnd.dataL, Cnd.depthL, Cnd.weightL]
    have t1 := fit_cnd hn c h.1
    have t2 := fit_cnds hn cs h.2
    exact (fit_cons (t1.mono (n' := 3 * max c.depth (Cnd.depthL cs) + 6) (by omega) (Nat.le_refl _)) (t2.mono (by omega) (Nat.le_refl _))).mono (Nat.le_refl _) (by have := weightL_len cs; rw [List.length_cons]; omega)
end
end Gx

set_option Elab.async false
set_option linter.all false
set_option maxRecDepth 100000
set_option maxHeartbeats 4000000
namespace Gx
open PySem PySem.Spec PyProof.Rows L2 Evl
/-! A list by pairs, as cases take it. -/
def ev {α : Type} : Nat → List α → List α
  | m + 1, a :: _ :: r => a :: ev m r
  | _, _ => []
def od {α : Type} : Nat → List α → List α
  | m + 1, _ :: b :: r => b :: od m r
  | _, _ => []
section
variable {K : PySem.W.Frag} {H : Hp}
theorem zip_ev : ∀ {m : Nat} {qs : List Addr} {xs : List V}, qs.length = m → 2 * m ≤ xs.length →
    (∀ i, i < m → ∃ q x y, qs[i]? = some q ∧ xs[2 * i]? = some x ∧ xs[2 * i + 1]? = some y ∧ SqT K H q [x, y]) → Zip3 K H qs (ev m xs) (od m xs)
  | 0, [], xs, _, _, _ => trivial
  | 0, _ :: _, _, h, _, _ => by simp at h
  | m + 1, [], _, h, _, _ => by simp at h
  | m + 1, q :: qs, [], _, h, _ => by simp at h
  | m + 1, q :: qs, [_], _, h, _ => by simp at h; omega
  | m + 1, q :: qs, a :: b :: r, h, h', f => by
    refine ⟨?_, zip_ev (m := m) (by simpa using h) (by simp at h'; omega) fun i hi => ?_⟩
    · obtain ⟨q', x, y, e1, e2, e3, e4⟩ := f 0 (Nat.zero_lt_succ _)
      simp at e1 e2 e3
      subst e1 e2 e3
      exact e4
    · obtain ⟨q', x, y, e1, e2, e3, e4⟩ := f (i + 1) (Nat.succ_lt_succ hi)
      refine ⟨q', x, y, by simpa using e1, ?_, ?_, e4⟩
      · rw [show 2 * (i + 1) = 2 * i + 1 + 1 by omega] at e2; simpa using e2
      · rw [show 2 * (i + 1) + 1 = 2 * i + 1 + 1 + 1 by omega] at e3; simpa using e3
theorem cnds_ev : ∀ {m : Nat} {xs : List V} {cs : List Cnd}, CndsAt K H xs cs → 2 * m ≤ cs.length → CndsAt K H (ev m xs) (ev m cs) ∧ CndsAt K H (od m xs) (od m cs)
  | 0, xs, cs, _, _ => by
    have e1 : ∀ {α : Type} (l : List α), ev 0 l = [] := fun l => by cases l <;> rfl
    have e2 : ∀ {α : Type} (l : List α), od 0 l = [] := fun l => by cases l <;> rfl
    rw [e1, e1, e2, e2]
    exact ⟨rfl, rfl⟩
  | m + 1, xs, [], _, h => by simp at h
  | m + 1, xs, [_], _, h => by simp at h; omega
  | m + 1, xs, c :: d :: cs, ⟨x, _, e1, h1, y, r, e2, h2, h3⟩, h => by
    subst e1 e2
    obtain ⟨q1, q2⟩ := cnds_ev (m := m) h3 (by simp at h; omega)
    exact ⟨⟨x, _, rfl, h1, q1⟩, ⟨y, _, rfl, h2, q2⟩⟩
end
theorem len_ev : ∀ {α : Type} {m : Nat} {l : List α}, 2 * m ≤ l.length → (ev m l).length = m ∧ (od m l).length = m
  | _, 0, l, _ => by cases l <;> exact ⟨rfl, rfl⟩
  | _, m + 1, [], h => by simp at h
  | _, m + 1, [_], h => by simp at h; omega
  | _, m + 1, a :: b :: r, h => by
    obtain ⟨q1, q2⟩ := len_ev (m := m) (l := r) (by simp at h; omega)
    simp [ev, od, q1, q2]
theorem mem_ev : ∀ {α : Type} {m : Nat} {l : List α} {x : α}, x ∈ ev m l ∨ x ∈ od m l → x ∈ l
  | _, 0, l, x, h => by cases l <;> simp [ev, od] at h
  | _, m + 1, [], x, h => by simp [ev, od] at h
  | _, m + 1, [_], x, h => by simp [ev, od] at h
  | _, m + 1, a :: b :: r, x, h => by
    simp only [ev, od, List.mem_cons] at h ⊢
    rcases h with (h | h) | (h | h)
    · exact .inl h
    · exact .inr (.inr (mem_ev (m := m) (.inl h)))
    · exact .inr (.inl h)
    · exact .inr (.inr (mem_ev (m := m) (.inr h)))
theorem okL_ev {ns : List Str} {cs : List Cnd} {m : Nat} (h : Cnd.okL ns cs) : Cnd.okL ns (ev m cs) ∧ Cnd.okL ns (od m cs) :=
  ⟨Cnd.okL_iff.mpr fun c hc => Cnd.okL_iff.mp h c (mem_ev (.inl hc)), Cnd.okL_iff.mpr fun c hc => Cnd.okL_iff.mp h c (mem_ev (.inr hc))⟩
theorem depthL_ev {n : Nat} {cs : List Cnd} {m : Nat} (h : Cnd.depthL cs ≤ n) : Cnd.depthL (ev m cs) ≤ n ∧ Cnd.depthL (od m cs) ≤ n :=
  ⟨Cnd.depthL_le.mpr fun c hc => Cnd.depthL_le.mp h c (mem_ev (.inl hc)), Cnd.depthL_le.mpr fun c hc => Cnd.depthL_le.mp h c (mem_ev (.inr hc))⟩
theorem weight_mem : ∀ {cs : List Cnd} {c : Cnd}, c ∈ cs → c.weight + 20 ≤ Cnd.weightL cs
  | a :: cs, c, h => by
    rw [Cnd.weightL]
    rcases List.mem_cons.mp h with rfl | h
    · omega
    · have := weight_mem h; omega
theorem weight_ev : ∀ {m : Nat} {cs : List Cnd} {c : Cnd} {i : Nat}, cs[i]? = some c → 2 * m ≤ i → Cnd.weightL (ev m cs) + Cnd.weightL (od m cs) + c.weight + 20 ≤ Cnd.weightL cs
  | 0, cs, c, i, h, _ => by
    have e1 : ∀ {α : Type} (l : List α), ev 0 l = [] := fun l => by cases l <;> rfl
    have e2 : ∀ {α : Type} (l : List α), od 0 l = [] := fun l => by cases l <;> rfl
    rw [e1, e2]
    have := weight_mem (List.mem_of_getElem? h)
    simp only [Cnd.weightL]
    omega
  | m + 1, [], c, i, h, _ => by simp at h
  | m + 1, [_], c, i, h, hi => by
    have := (List.getElem?_eq_some_iff.mp h).1
    simp at this
    omega
  | m + 1, a :: b :: r, c, i, h, hi => by
    obtain ⟨i, rfl⟩ : ∃ i', i = i' + 2 := ⟨i - 2, by omega⟩
    have := weight_ev (m := m) (cs := r) (c := c) (i := i) (by simpa using h) (by omega)
    simp only [ev, od, Cnd.weightL]
    omega
theorem atI_last {α : Type} {xs : List α} {n : Nat} (h : xs.length = n + 1) : atI xs (-1) = xs[n]? := by
  unfold atI ixN
  rw [if_neg (by decide), if_pos (by omega)]
  show xs[(-1 + (xs.length : Int)).toNat]? = _
  rw [show (-1 + (xs.length : Int)).toNat = n by omega]
end Gx

set_option Elab.async false
set_option linter.all false
set_option maxRecDepth 100000
set_option maxHeartbeats 4000000
namespace K41
open PySem PySem.Spec PyProof.Rows L2 Evl Gx
def topS (i : Nat) : Stmt := PySem.Challenge.pw_refusedahead_k41_planners_told.main.body.getD i (.Pass ⟨0, 0, 0, 0⟩)
abbrev s_l_bag : Stmt := topS 12
theorem sc_l_bag : FnScope ["_law_script", "_law_cell"] ["_law_script"] (defScope s_l_bag) := ⟨rfl, rfl, rfl, by decide +kernel, rfl, by decide +kernel, by decide +kernel⟩
abbrev s_l_take : Stmt := topS 13
theorem sc_l_take : FnScope ["_law_bag_here", "_law_many", "_law_cell", "_law_mixed", "_law_drawn", "_law_begin", "_law_second"] ["_law_bag_here", "_law_many"] (defScope s_l_take) := ⟨rfl, rfl, rfl, by decide +kernel, rfl, by decide +kernel, by decide +kernel⟩
section
variable {P : Program} {w : World} {K : PySem.W.Frag} {mg : Str → Option Value} {base : Heap}
theorem ok_bagI {f : Addr} {fd : FuncData} (D : Def K mg "_law_bag" s_l_bag f fd ["_law_script"]) (bi : Bi mg) :
    FnOk P w K mg base CX0 1 f fd ["_law_script"] (spBagI K) := by
  refine D.fn.ok sc_l_bag (fun vs H Q E h => ?_) (fun cdv A outer s H vs Q E hr h => ?_)
  · obtain ⟨a, ns, rfl, _⟩ := h
    rfl
  · obtain ⟨a, ns, rfl, hs, hl, k⟩ := h
    refine ⟨_, (pss_one (ps_ret (pe_lst (pa_cons pe_int (pa_cons pe_int (pa_cons pe_int (pa_cons (pe_lc (own := [("_law_cell", 1)]) rfl sc_l_bag.nd (pi_list (pe_slice sl_list (pv 0) po_none (po_some pe_int))) (blkOk_by (N := ["_law_script", "_law_cell"]) (sc := defScope s_l_bag) (by decide +kernel)) (fun _ _ _ _ _ => (pg_name (i := 1) sc_l_bag.nd rfl (Or.inl rfl))) (fun _ _ _ _ _ => pts_nil) (fun _ _ _ _ _ => (pe_callB call_abs (by rfl) bi.abs bt_abs (pa_cons (pv 1) pa_nil)))) pa_nil))))))), ?_⟩
    refine ⟨_, rfl, 63, rfl, a, ns.map V.int, rfl, hs, fun c hcn => ?_⟩
    have cut : cutV (ns.map V.int) none (some 63) = (ns.take 63).map V.int := by
      unfold cutV
      rw [show HT.sIx (ns.map V.int).length 0 none = 0 from rfl, List.drop_zero, Nat.sub_zero]
      have e : HT.sIx (ns.map V.int).length (ns.map V.int).length (some 63) = min 63 (ns.map V.int).length := rfl
      rw [e, List.map_take]
      by_cases q : 63 ≤ (ns.map V.int).length
      · rw [Nat.min_eq_left q]
      · rw [Nat.min_eq_right (by omega), List.take_length, List.take_of_length_le (by omega)]
    rw [cut]
    refine ⟨c, rfl, ⟨_, SqL.of upd_same⟩, fun d hd => ?_⟩
    refine lc_list (xs := (ns.take 63).map V.int) (fun i H' => H' c = some (.lst ((ns.take 63).map V.int)) ∧ Ex H H' ∧ H d = none ∧ d ≠ c ∧
      ∃ cs : List Int, H' d = some (.lst (cs.map V.int)) ∧ cs.length = i ∧ ∀ x ∈ cs, 0 ≤ x) ?_ (fun i H' _ p => SqL.of p.1) ?_ ?_
    · have ncd : d ≠ c := fun e => by subst e; rw [upd_same] at hd; cases hd
      have hd0 : H d = none := by rw [upd_ne ncd] at hd; exact hd
      refine ⟨by rw [upd_ne ncd.symm]; exact upd_same, ?_, hd0, ncd, [], upd_same, rfl, by simp⟩
      exact (Ex.new hcn).trans (Ex.new hd)
    · rintro i x H' hi ⟨p1, p2, p3, p4, cs, p5, p6, p7⟩
      obtain ⟨z, rfl⟩ : ∃ z, x = V.int z := by
        rw [List.getElem?_map] at hi
        obtain ⟨z, _, e⟩ := Option.map_eq_some_iff.mp hi
        exact ⟨z, e.symm⟩
      have hil : i < 63 := by
        have := (List.getElem?_eq_some_iff.mp hi).1
        rw [List.length_map, List.length_take] at this
        omega
      refine ⟨rfl, _, rfl, z, rfl, cs.map V.int, p5, by rw [List.length_map]; exact small1000 (by omega), ?_⟩
      refine ⟨by rw [upd_ne p4.symm]; exact p1, p2.mut p3, p3, p4, cs ++ [if z < 0 then -z else z], ?_, by simp [p6], ?_⟩
      · rw [upd_same, List.map_append]; rfl
      · intro y hy
        rcases List.mem_append.mp hy with q | q
        · exact p7 y q
        · rw [List.mem_singleton] at q; subst q; split <;> omega
    · rintro H' ⟨p1, p2, p3, p4, cs, p5, p6, p7⟩
      refine ⟨by show 4 ≤ sizeLine; decide, fun p hp => ?_⟩
      have ndp : d ≠ p := fun e => by subst e; rw [p5] at hp; cases hp
      exact k p d cs _ (ex_upd p2 hp) (fresh_back p2 hp) upd_same (by rw [upd_ne ndp]; exact p5) p7
theorem ok_takeI {f : Addr} {fd : FuncData} (D : Def K mg "_law_take" s_l_take f fd ["_law_bag_here", "_law_many"]) (bi : Bi mg) :
    FnOk P w K mg base CX0 1 f fd ["_law_bag_here", "_law_many"] spTakeI := by
  refine D.fn.ok sc_l_take (fun vs H Q E h => ?_) (fun cdv A outer s H vs Q E hr h => ?_)
  · obtain ⟨b, l, many, p, q, r, cs, rfl, _⟩ := h
    rfl
  · obtain ⟨b, l, many, p, q, r, cs, rfl, hb, hl, nbl, hc, z, m0, m1, k⟩ := h
    refine ⟨_, (Evl.pss_cut (ps_if (pt_cmpR op_eq (pe_ix ix_list (pv 0) pe_int (fun _ _ => rfl)) pe_int (nomark _))
    (pss_cons (ps_set (i := 2) sc_l_take.nd rfl (Or.inl rfl) pe_int)
    (Evl.pss_cut (ps_if (pt_cmpR op_lt (pe_ix ix_list (pv 0) pe_int (fun _ _ => rfl)) (pe_callB call_len_seq (by rfl) bi.len bt_len (pa_cons (pe_ix ix_list (pv 0) pe_int (fun _ _ => rfl)) pa_nil)) (nomark _))
      (pss_one (ps_set (i := 2) sc_l_take.nd rfl (Or.inl rfl) (pe_ix ix_list (pe_ix ix_list (pv 0) pe_int (fun _ _ => rfl)) (pe_ix ix_list (pv 0) pe_int (fun _ _ => rfl)) (fun _ _ => rfl))))
      pss_nil)
    (pss_cons (ps_augS (pv 0) pe_int get_list pe_int ip_add set_list)
    (Evl.pss_cut (ps_if (pt_cmpR op_ge (pv 2) (pe_op op_pow pe_int pe_int) (nomark _))
      (pss_one (ps_asg (pv 2) (pg_sub (pv 0) pe_int set_list)))
      pss_nil)
    (pss_cons (ps_set (i := 3) sc_l_take.nd rfl (Or.inl rfl) (pe_op op_add (pe_op op_add (pe_op op_mul (pe_ix ix_list (pv 0) pe_int (fun _ _ => rfl)) pe_int) (pe_op op_mod (pe_callTy call_int1 (by rfl) bi.int bt_int (pa_cons (pv 2) pa_nil)) pe_int)) (pe_op op_mul pe_int (pe_ix ix_list (pv 0) pe_int (fun _ _ => rfl)))))
    (pss_one (ps_asg (pe_op op_mod (pe_callTy call_int1 (by rfl) bi.int bt_int (pa_cons (pv 3) pa_nil)) pe_int) (pg_sub (pv 0) pe_int set_list))))))))
    pss_nil)
  (pss_cons (ps_if (pt_cmpR op_gt (pe_ix ix_list (pv 0) pe_int (fun _ _ => rfl)) pe_int (nomark _))
    (pss_cons (ps_set (i := 4) sc_l_take.nd rfl (Or.inl rfl) (pe_op op_mod (pe_callTy call_int1 (by rfl) bi.int bt_int (pa_cons (pe_ix ix_list (pv 0) pe_int (fun _ _ => rfl)) pa_nil)) (pv 1)))
    (pss_cons (ps_asg (pe_op op_fdiv (pe_ix ix_list (pv 0) pe_int (fun _ _ => rfl)) (pv 1)) (pg_sub (pv 0) pe_int set_list))
    (pss_one (ps_ret (pv 4)))))
    pss_nil)
  (pss_cons (ps_set (i := 5) sc_l_take.nd rfl (Or.inl rfl) (pe_op op_mod (pe_callTy call_int1 (by rfl) bi.int bt_int (pa_cons (pe_op op_mul (pe_op op_add (pe_ix ix_list (pv 0) pe_int (fun _ _ => rfl)) pe_int) pe_int) pa_nil)) pe_int))
  (pss_cons (ps_set (i := 6) sc_l_take.nd rfl (Or.inl rfl) (pe_op op_mod (pe_callTy call_int1 (by rfl) bi.int bt_int (pa_cons (pe_op op_mul (pe_op op_mod (pe_callTy call_int1 (by rfl) bi.int bt_int (pa_cons (pe_op op_mul (pv 5) (pv 5)) pa_nil)) pe_int) pe_int) pa_nil)) pe_int))
  (pss_one (ps_ret (pe_op op_mod (pe_callTy call_int1 (by rfl) bi.int bt_int (pa_cons (pe_op op_fdiv (pv 6) pe_int) pa_nil)) (pv 1)))))))), ?_⟩
    -- between the statements: the list holds some four
    refine ⟨fun σ H' => ∃ (p' q' r' : Int) (x5 x6 x7 x8 x9 : Option V), σ = [some (.ref b), some (.int many), x5, x6, x7, x8, x9] ∧
      (0 ≤ p' ∧ 0 ≤ q' ∧ q' < 2147483647 ∧ 0 ≤ r') ∧ H' = upd H b (.lst (bagL p' q' r' l)), ?_, ?_⟩
    · -- if _law_bag_here[0] == 0
      refine ⟨_, rfl, b, bagL p q r l, 0, .int p, rfl, rfl, SqL.of hb, rfl, rfl, _, rfl, ?_⟩
      refine if_d (fun _ => ?_) (fun _ => ⟨p, q, r, none, none, none, none, none, rfl, z, (upd_self hb).symm⟩)
      refine ⟨fun σ H' => ∃ c : Int, σ = [some (.ref b), some (.int many), some (.int c), none, none, none, none] ∧ 0 ≤ c ∧ H' = H, ?_, ?_⟩
      · refine ⟨_, rfl, b, bagL p q r l, 2, .int r, rfl, rfl, SqL.of hb, rfl, _, rfl, b, bagL p q r l, 3, .ref l, rfl, rfl, SqL.of hb, rfl,
          l, cs.map V.int, rfl, .inl (SqL.of hl), r, (cs.map V.int).length, rfl, rfl, _, rfl, ?_⟩
        refine if_d (fun hlt => ?_) (fun _ => ⟨0, rfl, by omega, rfl⟩)
        rw [List.length_map] at hlt
        obtain ⟨v, hv, hm⟩ := get_of (xs := cs) (i := r) z.2.2.2 hlt
        refine ⟨_, rfl, b, bagL p q r l, 3, .ref l, rfl, rfl, SqL.of hb, rfl, _, rfl, b, bagL p q r l, 2, .int r, rfl, rfl, SqL.of hb, rfl,
          l, cs.map V.int, r, .int v, rfl, rfl, SqL.of hl, atI_of z.2.2.2 (by rw [List.getElem?_map, hv]; rfl), v, rfl, hc v hm, rfl⟩
      · rintro σ H' ⟨c, rfl, hc0, eH⟩
        have eH := eH.symm; subst eH
        -- _law_bag_here[2] += 1
        refine ⟨_, rfl, b, bagL p q r l, 2, .int r, rfl, rfl, SqL.of hb, by decide, by decide, rfl, r, 1, rfl, rfl, b, bagL p q r l, 2, 2, rfl, rfl, hb, rfl, ?_⟩
        refine ⟨fun σ H' => ∃ p' : Int, σ = [some (.ref b), some (.int many), some (.int c), none, none, none, none] ∧ 0 ≤ p' ∧
          H' = upd H b (.lst (bagL p' q (r + 1) l)), ?_, ?_⟩
        · refine ⟨_, rfl, 10, 18, rfl, rfl, ⟨by decide, by decide, by decide⟩, c, _, rfl, rfl, _, rfl, ?_⟩
          refine if_d (fun _ => ?_) (fun _ => ⟨p, rfl, z.1, rfl⟩)
          refine ⟨_, rfl, _, rfl, b, bagL p q (r + 1) l, 0, 0, rfl, rfl, upd_same, rfl, c, rfl, hc0, ?_⟩
          rw [upd_upd]; rfl
        · rintro σ H' ⟨p', rfl, hp', rfl⟩
          refine ⟨_, rfl, b, bagL p' q (r + 1) l, 1, .int q, rfl, rfl, SqL.of upd_same, rfl, q, 48271, rfl, rfl, .inr ⟨by decide, by decide⟩, ?_⟩
          refine ⟨_, rfl, .inl ⟨c, rfl, c, 2147483647, rfl, rfl, (by show (0 : Int) < 2147483647; decide), q * 48271, c % 2147483647, rfl, rfl, ?_⟩⟩
          refine ⟨_, rfl, b, bagL p' q (r + 1) l, 2, .int (r + 1), rfl, rfl, SqL.of upd_same, rfl, 7919, r + 1, rfl, rfl, .inl ⟨by decide, by decide⟩, _, _, rfl, rfl, ?_⟩
          refine ⟨_, rfl, .inl ⟨_, rfl, _, 2147483647, rfl, rfl, (by show (0 : Int) < 2147483647; decide), ?_⟩⟩
          refine ⟨_, rfl, b, bagL p' q (r + 1) l, 1, 1, rfl, rfl, upd_same, rfl, ?_⟩
          refine ⟨p', (q * 48271 + c % 2147483647 + 7919 * (r + 1)) % 2147483647, r + 1, _, _, _, _, _, rfl, ⟨hp', Int.emod_nonneg _ (by decide), Int.emod_lt_of_pos _ (by decide), by omega⟩, ?_⟩
          rw [upd_upd]; rfl
    · rintro σ H' ⟨p', q', r', x5, x6, x7, x8, x9, rfl, z', eH⟩
      subst eH
      refine ⟨_, rfl, b, bagL p' q' r' l, 0, .int p', rfl, rfl, SqL.of upd_same, rfl, p', 0, rfl, rfl, _, rfl, ?_⟩
      refine if_d (fun hp => ?_) (fun _ => ?_)
      · -- a number is left of a great one
        refine ⟨_, rfl, b, bagL p' q' r' l, 0, .int p', rfl, rfl, SqL.of upd_same, rfl, .inl ⟨p', rfl, _, rfl, p', many, rfl, rfl, m0, ?_⟩⟩
        refine ⟨_, rfl, b, bagL p' q' r' l, 0, .int p', rfl, rfl, SqL.of upd_same, rfl, _, rfl, p', many, rfl, rfl, ⟨m0, m1⟩, ?_⟩
        refine ⟨_, rfl, b, bagL p' q' r' l, 0, 0, rfl, rfl, upd_same, rfl, ?_⟩
        refine ⟨_, rfl, ?_⟩
        rw [upd_upd]
        exact k (p' % many) (p' / many) q' r' (Int.emod_nonneg _ (by omega)) (Int.emod_lt_of_pos _ m0) ⟨Int.ediv_nonneg z'.1 (by omega), z'.2⟩
      · refine ⟨_, rfl, b, bagL p' q' r' l, 1, .int q', rfl, rfl, SqL.of upd_same, rfl, q', 1, rfl, rfl, _, 39373, rfl, rfl, .inr ⟨by decide, by decide⟩, ?_⟩
        refine .inl ⟨_, rfl, _, 1000000007, rfl, rfl, (by show (0 : Int) < 1000000007; decide), ?_⟩
        have g1 : 0 ≤ (q' + 1) * 39373 % 1000000007 := Int.emod_nonneg _ (by decide)
        have g2 : (q' + 1) * 39373 % 1000000007 < 1000000007 := Int.emod_lt_of_pos _ (by decide)
        refine ⟨_, rfl, _, rfl, _, _, rfl, rfl, .inl ⟨by omega, by omega⟩, ?_⟩
        refine .inl ⟨_, rfl, _, 998244353, rfl, rfl, (by show (0 : Int) < 998244353; decide), _, 30011, rfl, rfl, .inr ⟨by decide, by decide⟩, ?_⟩
        refine .inl ⟨_, rfl, _, 998244353, rfl, rfl, (by show (0 : Int) < 998244353; decide), ?_⟩
        refine ⟨_, rfl, _, 7, rfl, rfl, ⟨by decide, by decide⟩, ?_⟩
        refine .inl ⟨_, rfl, _, rfl, _, many, rfl, rfl, m0, ?_⟩
        exact k _ p' q' r' (Int.emod_nonneg _ (by omega)) (Int.emod_lt_of_pos _ m0) z'
end
end K41

set_option Elab.async false
set_option linter.all false
set_option maxRecDepth 100000
set_option maxHeartbeats 4000000
namespace K41
open PySem PySem.Spec PyProof.Rows L2 Evl Gx
abbrev s_l_one : Stmt := topS 15
theorem sc_l_one : FnScope ["_law_bag_here", "_law_things"] ["_law_bag_here", "_law_things"] (defScope s_l_one) := ⟨rfl, rfl, rfl, by decide +kernel, rfl, by decide +kernel, by decide +kernel⟩
section
variable {P : Program} {w : World} {K : PySem.W.Frag} {mg : Str → Option Value} {base : Heap}
variable {f_l_take f_l_one : Addr} {fd_l_take fd_l_one : FuncData}
theorem ok_one {f : Addr} {fd : FuncData} (D : Def K mg "_law_one" s_l_one f fd ["_law_bag_here", "_law_things"]) (bi : Bi mg)
    (D_l_take : Def K mg "_law_take" s_l_take f_l_take fd_l_take ["_law_bag_here", "_law_many"])
    (G_l_take : FnOk P w K mg base CX0 1 f_l_take fd_l_take ["_law_bag_here", "_law_many"] spTake) :
    FnOk P w K mg base CX0 2 f fd ["_law_bag_here", "_law_things"] (spOne K) := by
  refine D.fn.ok sc_l_one (fun vs H Q E h => ?_) (fun cdv A outer s H vs Q E hr h => ?_)
  · obtain ⟨b, l, xs, rfl, _⟩ := h
    rfl
  · obtain ⟨b, l, xs, rfl, hb, hl, h0, h1, k⟩ := h
    refine ⟨_, (pss_one (ps_ret (pe_ix ix_list (pv 1) (pe_call G_l_take (hr.mono (by first | decide | omega)) rfl D_l_take.mg D_l_take.fn.kp D_l_take.bd .nil pass0 (pa_cons (pv 0) (pa_cons (pe_callB call_len_seq (by rfl) bi.len bt_len (pa_cons (pv 1) pa_nil)) pa_nil))) (fun _ _ => rfl)))), ?_⟩
    refine ⟨_, rfl, _, rfl, _, rfl, l, xs, rfl, .inl hl, b, xs.length, rfl, hb, by omega, by omega, fun i i0 i1 => ?_⟩
    obtain ⟨v, e, m⟩ := item_in i0 i1
    exact ⟨l, xs, i, v, rfl, rfl, hl, e, k v m⟩
end
end K41

set_option Elab.async false
set_option linter.all false
set_option maxRecDepth 100000
set_option maxHeartbeats 4000000
namespace Gx
open PySem PySem.Spec PyProof.Rows L2 Evl
/-! What conditions answer at a row, leaf by leaf, and what they answer when turned about. -/
def exch (w : Str) : Str := if w = "yes" then "no" else if w = "no" then "yes" else w
def agreesB (m : Int) (sg : Str) (k : Int) : Bool :=
  if m < k then decide (sg ∈ (["<", "<=", "<>"] : List Str)) else if m > k then decide (sg ∈ (["<>", ">", ">="] : List Str)) else decide (sg ∈ (["<=", "=", ">="] : List Str))
def numV : V → Str
  | .non => "unknown"
  | .int _ => "yes"
  | _ => "no"
def askV (ss : List Stp) (sg : Str) (k : Int) : V → Str
  | .non => "unknown"
  | .int i => match leadAll ss i with
    | some m => if agreesB m sg k = true then "yes" else "no"
    | none => "error"
  | _ => "error"
def leafAns (R : Str → V) : Leaf → Str
  | .always w => w
  | .empty n => if R n = .non then "yes" else "no"
  | .number n => numV (R n)
  | .asks n ss sg k => askV ss sg k (R n)
theorem askV_some {ss : List Stp} {sg : Str} {k i m : Int} (h : leadAll ss i = some m) : askV ss sg k (.int i) = (if agreesB m sg k = true then ("yes" : Str) else "no") := by
  show (match leadAll ss i with | some m => if agreesB m sg k = true then ("yes" : Str) else "no" | none => "error") = _
  rw [h]
theorem askV_none {ss : List Stp} {sg : Str} {k i : Int} (h : leadAll ss i = none) : askV ss sg k (.int i) = "error" := by
  show (match leadAll ss i with | some m => if agreesB m sg k = true then ("yes" : Str) else "no" | none => "error") = _
  rw [h]
abbrev Res := Str × List PyData
def allOf (dec : Str) : Str → List Res → Res
  | found, [] => (found, [])
  | found, r :: rs => if r.1 = "error" ∨ r.1 = dec then r else
      ((allOf dec (if r.1 = "unknown" then r.1 else found) rs).1, r.2 ++ (allOf dec (if r.1 = "unknown" then r.1 else found) rs).2)
def firstOf : List Res → Res
  | [] => ("unknown", [])
  | r :: rs => if r.1 = "unknown" then ((firstOf rs).1, r.2 ++ (firstOf rs).2) else r
def caseOf : List Res → List Res → Res → Res
  | r :: rs, t :: ts, e => if r.1 = "error" then r else if r.1 = "yes" then (t.1, r.2 ++ t.2) else ((caseOf rs ts e).1, r.2 ++ (caseOf rs ts e).2)
  | _, _, e => e
def nodeOf (k : Str) (rs : List Res) : Res := if k = "first" then firstOf rs else if k = "all" then allOf "no" "yes" rs else allOf "yes" "no" rs
def entry (adr : List Int) (w : Str) : PyData := .tuple [.tuple (adr.map PyData.int), .str w]
mutual
def run (R : Str → V) : List Int → Cnd → Res
  | adr, .leaf l => (leafAns R l, [entry adr (leafAns R l)])
  | adr, .not c => (exch (run R (adr ++ [0]) c).1, (run R (adr ++ [0]) c).2)
  | adr, .node k cs => nodeOf k (runL R adr 0 1 cs)
  | adr, .case ws ts e => caseOf (runL R adr 0 2 ws) (runL R adr 1 2 ts) (run R (adr ++ [2 * (ws.length : Int)]) e)
def runL (R : Str → V) : List Int → Int → Int → List Cnd → List Res
  | _, _, _, [] => []
  | adr, i, st, c :: cs => run R (adr ++ [i]) c :: runL R adr (i + st) st cs
end
def turnK (k : Str) : Str := if k = "first" then "first" else if k = "all" then "any" else "all"
def Leaf.turn : Leaf → Cnd
  | .always w => .leaf (.always (exch w))
  | l => .not (.leaf l)
mutual
def Cnd.turn : Cnd → Cnd
  | .leaf l => l.turn
  | .not c => c
  | .node k cs => .node (turnK k) (Cnd.turnL cs)
  | .case ws ts e => .case ws (Cnd.turnL ts) e.turn
def Cnd.turnL : List Cnd → List Cnd
  | [] => []
  | c :: cs => c.turn :: Cnd.turnL cs
end
theorem Cnd.turnL_map : ∀ cs : List Cnd, Cnd.turnL cs = cs.map Cnd.turn
  | [] => rfl
  | c :: cs => by rw [Cnd.turnL, Cnd.turnL_map cs]; rfl
/-! ### answers by another naming -/
structure Ren (f : Str → Str) : Prop where
  inj : ∀ x y, f x = f y → x = y
  err : f "error" = "error"
  unk : f "unknown" = "unknown"
structure Sim (f : Str → Str) (r r' : Res) : Prop where
  ans : r'.1 = f r.1
  len : r'.2.length = r.2.length
theorem exch_exch (w : Str) : exch (exch w) = w := by
  unfold exch
  by_cases h1 : w = "yes"
  · subst h1; decide +kernel
  · by_cases h2 : w = "no"
    · subst h2; decide +kernel
    · rw [if_neg h1, if_neg h2, if_neg h1, if_neg h2]
theorem ren_exch : Ren exch := ⟨fun x y h => by have := congrArg exch h; rwa [exch_exch, exch_exch] at this, by decide +kernel, by decide +kernel⟩
theorem ren_id : Ren id := ⟨fun _ _ h => h, rfl, rfl⟩
theorem Ren.iff {f : Str → Str} (F : Ren f) {x y : Str} : f x = f y ↔ x = y := ⟨F.inj x y, fun h => by rw [h]⟩
theorem Ren.erri {f : Str → Str} (F : Ren f) {x : Str} : f x = "error" ↔ x = "error" := by rw [← F.iff (x := x), F.err]
theorem Ren.unki {f : Str → Str} (F : Ren f) {x : Str} : f x = "unknown" ↔ x = "unknown" := by rw [← F.iff (x := x), F.unk]
inductive Sims (f : Str → Str) : List Res → List Res → Prop
  | nil : Sims f [] []
  | cons {r r' : Res} {rs rs' : List Res} : Sim f r r' → Sims f rs rs' → Sims f (r :: rs) (r' :: rs')
theorem allOf_sim {f : Str → Str} (F : Ren f) {dec : Str} {rs rs' : List Res} (h : Sims f rs rs') : ∀ found, Sim f (allOf dec found rs) (allOf (f dec) (f found) rs') := by
  induction h with
  | nil => intro found; exact ⟨rfl, rfl⟩
  | @cons r r' rs rs' h1 h2 ih =>
    intro found
    unfold allOf
    rw [h1.ans]
    by_cases c : r.1 = "error" ∨ r.1 = dec
    · rw [if_pos c, if_pos (c.imp F.erri.mpr F.iff.mpr)]
      exact ⟨h1.ans, h1.len⟩
    · rw [if_neg c, if_neg (show ¬ (f r.1 = "error" ∨ f r.1 = f dec) from fun e => c (e.imp F.erri.mp F.iff.mp))]
      have e : (if f r.1 = "unknown" then f r.1 else f found) = f (if r.1 = "unknown" then r.1 else found) := by
        by_cases u : r.1 = "unknown"
        · rw [if_pos u, if_pos (F.unki.mpr u)]
        · rw [if_neg u, if_neg (fun z => u (F.unki.mp z))]
      rw [e]
      have := ih (if r.1 = "unknown" then r.1 else found)
      exact ⟨this.ans, by simp only [List.length_append, h1.len, this.len]⟩
theorem firstOf_sim {f : Str → Str} (F : Ren f) {rs rs' : List Res} (h : Sims f rs rs') : Sim f (firstOf rs) (firstOf rs') := by
  induction h with
  | nil => exact ⟨F.unk.symm, rfl⟩
  | @cons r r' rs rs' h1 h2 ih =>
    unfold firstOf
    rw [h1.ans]
    by_cases c : r.1 = "unknown"
    · rw [if_pos c, if_pos (F.unki.mpr c)]
      exact ⟨ih.ans, by simp only [List.length_append, h1.len, ih.len]⟩
    · rw [if_neg c, if_neg (fun z => c (F.unki.mp z))]
      exact ⟨h1.ans, h1.len⟩
theorem caseOf_sim {f : Str → Str} {rs rs' : List Res} (h : Sims id rs rs') : ∀ {ts ts' : List Res} {e e' : Res}, Sims f ts ts' → Sim f e e' → (f "error" = "error") →
    Sim f (caseOf rs ts e) (caseOf rs' ts' e') := by
  induction h with
  | nil => intro ts ts' e e' _ he _; unfold caseOf; exact he
  | @cons r r' rs rs' h1 h2 ih =>
    intro ts ts' e e' ht he fe
    cases ht with
    | nil => exact he
    | @cons t t' ts ts' t1 t2 =>
      unfold caseOf
      have a : r'.1 = r.1 := h1.ans
      rw [a]
      by_cases c : r.1 = "error"
      · rw [if_pos c, if_pos c]; exact ⟨by rw [a, c, fe], h1.len⟩
      · rw [if_neg c, if_neg c]
        by_cases y : r.1 = "yes"
        · rw [if_pos y, if_pos y]; exact ⟨t1.ans, by simp only [List.length_append, h1.len, t1.len]⟩
        · rw [if_neg y, if_neg y]
          have := ih t2 he fe
          exact ⟨this.ans, by simp only [List.length_append, h1.len, this.len]⟩
mutual
theorem run_adr (R : Str → V) : ∀ (c : Cnd) (a a' : List Int), Sim id (run R a c) (run R a' c)
  | .leaf l, a, a' => by simp only [run]; exact ⟨rfl, rfl⟩
  | .not c, a, a' => by
    have := run_adr R c (a ++ [0]) (a' ++ [0])
    simp only [run]
    exact ⟨by show exch _ = exch _; rw [this.ans]; rfl, this.len⟩
  | .node k cs, a, a' => by
    have := runL_adr R cs a a' 0 0 1 1
    simp only [run]
    unfold nodeOf
    by_cases h1 : k = "first"
    · rw [if_pos h1, if_pos h1]; exact firstOf_sim ren_id this
    · rw [if_neg h1, if_neg h1]
      by_cases h2 : k = "all"
      · rw [if_pos h2, if_pos h2]; exact allOf_sim ren_id this _
      · rw [if_neg h2, if_neg h2]; exact allOf_sim ren_id this _
  | .case ws ts e, a, a' => by
    simp only [run]
    exact caseOf_sim (runL_adr R ws a a' 0 0 2 2) (runL_adr R ts a a' 1 1 2 2) (run_adr R e _ _) rfl
theorem runL_adr (R : Str → V) : ∀ (cs : List Cnd) (a a' : List Int) (i i' st st' : Int), Sims id (runL R a i st cs) (runL R a' i' st' cs)
  | [], _, _, _, _, _, _ => by simp only [runL]; exact .nil
  | c :: cs, a, a', i, i', st, st' => by simp only [runL]; exact .cons (run_adr R c _ _) (runL_adr R cs a a' _ _ _ _)
end
theorem leaf_turn (R : Str → V) (l : Leaf) (a : List Int) : Sim exch (run R a (.leaf l)) (run R a l.turn) := by
  cases l <;> (simp only [Leaf.turn, run, leafAns]; exact ⟨rfl, rfl⟩)
mutual
theorem run_turn (R : Str → V) : ∀ (c : Cnd) (a : List Int), Sim exch (run R a c) (run R a c.turn)
  | .leaf l, a => by rw [Cnd.turn]; exact leaf_turn R l a
  | .not c, a => by
    have := run_adr R c (a ++ [0]) a
    rw [Cnd.turn]
    have e : run R a (.not c) = (exch (run R (a ++ [0]) c).1, (run R (a ++ [0]) c).2) := by simp only [run]
    rw [e]
    exact ⟨by show (run R a c).1 = exch (exch _); rw [exch_exch, this.ans]; rfl, this.len⟩
  | .node k cs, a => by
    have := runL_turn R cs a 0 1
    rw [Cnd.turn]
    simp only [run]
    unfold nodeOf turnK
    by_cases h1 : k = "first"
    · rw [if_pos h1, if_pos h1, if_pos rfl]; exact firstOf_sim ren_exch this
    · rw [if_neg h1, if_neg h1]
      by_cases h2 : k = "all"
      · rw [if_pos h2, if_pos h2, if_neg (by decide +kernel), if_neg (by decide +kernel)]
        exact allOf_sim (dec := "no") ren_exch this "yes"
      · rw [if_neg h2, if_neg h2, if_neg (by decide +kernel), if_pos rfl]
        exact allOf_sim (dec := "yes") ren_exch this "no"
  | .case ws ts e, a => by
    rw [Cnd.turn]
    simp only [run]
    exact caseOf_sim (runL_adr R ws a a 0 0 2 2) (runL_turn R ts a 1 2) (run_turn R e _) (by decide +kernel)
theorem runL_turn (R : Str → V) : ∀ (cs : List Cnd) (a : List Int) (i st : Int), Sims exch (runL R a i st cs) (runL R a i st (Cnd.turnL cs))
  | [], _, _, _ => by rw [Cnd.turnL]; simp only [runL]; exact .nil
  | c :: cs, a, i, st => by rw [Cnd.turnL]; simp only [runL]; exact .cons (run_turn R c _) (runL_turn R cs a _ _)
end
theorem len_turnL (cs : List Cnd) : (Cnd.turnL cs).length = cs.length := by rw [Cnd.turnL_map, List.length_map]
/-! ### what is turned is a condition, little greater -/
theorem word_exch {w : Str} (h : w ∈ words) : exch w ∈ words := by
  have : ∀ w ∈ words, exch w ∈ words := by decide +kernel
  exact this w h
theorem kind_turn {k : Str} (h : k ∈ kinds) : turnK k ∈ kinds := by
  have : ∀ k ∈ kinds, turnK k ∈ kinds := by decide +kernel
  exact this k h
mutual
theorem ok_turn {ns : List Str} : ∀ (c : Cnd), c.ok ns → c.turn.ok ns
  | .leaf l, h => by
    rw [Cnd.turn]
    cases l with
    | always w => exact word_exch h
    | _ => exact h
  | .not c, h => by rw [Cnd.turn]; rw [Cnd.ok] at h; exact h
  | .node k cs, h => by rw [Cnd.turn, Cnd.ok]; rw [Cnd.ok] at h; exact ⟨kind_turn h.1, okL_turn cs h.2⟩
  | .case ws ts e, h => by rw [Cnd.turn, Cnd.ok]; rw [Cnd.ok] at h; exact ⟨by rw [len_turnL]; exact h.1, h.2.1, okL_turn ts h.2.2.1, ok_turn e h.2.2.2⟩
theorem okL_turn {ns : List Str} : ∀ (cs : List Cnd), Cnd.okL ns cs → Cnd.okL ns (Cnd.turnL cs)
  | [], h => by rw [Cnd.turnL]; exact h
  | c :: cs, h => by rw [Cnd.turnL, Cnd.okL]; rw [Cnd.okL] at h; exact ⟨ok_turn c h.1, okL_turn cs h.2⟩
end
mutual
theorem depth_turn : ∀ (c : Cnd), c.turn.depth ≤ c.depth + 1
  | .leaf l => by rw [Cnd.turn]; cases l <;> simp [Leaf.turn, Cnd.depth]
  | .not c => by rw [Cnd.turn, Cnd.depth]; omega
  | .node k cs => by rw [Cnd.turn, Cnd.depth, Cnd.depth]; have := depthL_turn cs; omega
  | .case ws ts e => by rw [Cnd.turn, Cnd.depth, Cnd.depth]; have := depthL_turn ts; have := depth_turn e; omega
theorem depthL_turn : ∀ (cs : List Cnd), Cnd.depthL (Cnd.turnL cs) ≤ Cnd.depthL cs + 1
  | [] => by rw [Cnd.turnL, Cnd.depthL]; omega
  | c :: cs => by rw [Cnd.turnL, Cnd.depthL, Cnd.depthL]; have := depth_turn c; have := depthL_turn cs; omega
end
mutual
theorem weight_turn : ∀ (c : Cnd), 5000 * c.turn.weight ≤ 5001 * c.weight
  | .leaf l => by rw [Cnd.turn]; cases l <;> simp [Leaf.turn, Cnd.weight]
  | .not c => by rw [Cnd.turn, Cnd.weight]; omega
  | .node k cs => by rw [Cnd.turn, Cnd.weight, Cnd.weight]; have := weightL_turn cs; omega
  | .case ws ts e => by rw [Cnd.turn, Cnd.weight, Cnd.weight]; have := weightL_turn ts; have := weight_turn e; omega
theorem weightL_turn : ∀ (cs : List Cnd), 5000 * Cnd.weightL (Cnd.turnL cs) ≤ 5001 * Cnd.weightL cs
  | [] => by rw [Cnd.turnL, Cnd.weightL]; omega
  | c :: cs => by rw [Cnd.turnL, Cnd.weightL, Cnd.weightL]; have := weight_turn c; have := weightL_turn cs; omega
end
end Gx

set_option Elab.async false
set_option linter.all false
set_option maxRecDepth 100000
set_option maxHeartbeats 4000000
namespace Gx
open PySem PySem.Spec PyProof.Rows L2 Evl
/-! Asking with a list that grows: what stands, what the list holds. -/
/-- all stands but what lies at one address -/
def ExB (tr : Addr) (H H' : Hp) : Prop := ∀ a o, a ≠ tr → H a = some o → H' a = some o
theorem ExB.of {tr : Addr} {H H' : Hp} (e : Ex H H') : ExB tr H H' := fun a o _ h => e a o h
theorem ExB.trans {tr : Addr} {H H1 H2 : Hp} (a : ExB tr H H1) (b : ExB tr H1 H2) : ExB tr H H2 := fun c o n h => b c o n (a c o n h)
theorem ExB.toI {tr : Addr} {H H' : Hp} {ts : List V} (h : H tr = some (.lst ts)) (e : ExB tr H H') : ExI H H' := fun a o q i => by
  refine e a o (fun z => ?_) q
  subst z
  rw [h] at q
  cases q
  cases i
theorem ExB.put {tr : Addr} {H : Hp} {o : HO} : ExB tr H (upd H tr o) := fun a u n h => by rw [upd_ne n]; exact h
/-- what the list holds: addresses with what was said there -/
def Ents (K : PySem.W.Frag) (H : Hp) : List V → List PyData → Prop
  | [], [] => True
  | v :: vs, d :: ds => (∃ (e ad : Addr) (adr : List Int) (w : Str), v = .ref e ∧ d = entry adr w ∧ SqT K H e [.ref ad, .str w] ∧ SqT K H ad (adr.map V.int)) ∧ Ents K H vs ds
  | _, _ => False
section
variable {K : PySem.W.Frag} {H H' : Hp}
theorem ents_toI (e : ExI H H') : ∀ {vs : List V} {ds : List PyData}, Ents K H vs ds → Ents K H' vs ds
  | [], [], _ => trivial
  | _ :: _, _ :: _, ⟨⟨a, ad, adr, w, h1, h2, h3, h4⟩, t⟩ => ⟨⟨a, ad, adr, w, h1, h2, e.sq h3, e.sq h4⟩, ents_toI e t⟩
  | [], _ :: _, h => h.elim
  | _ :: _, [], h => h.elim
theorem ents_app : ∀ {vs ws : List V} {ds es : List PyData}, Ents K H vs ds → Ents K H ws es → Ents K H (vs ++ ws) (ds ++ es)
  | [], ws, [], es, _, h => h
  | _ :: _, ws, _ :: _, es, ⟨a, t⟩, h => ⟨a, ents_app t h⟩
  | [], _, _ :: _, _, h, _ => h.elim
  | _ :: _, _, [], _, h, _ => h.elim
theorem ents_len : ∀ {vs : List V} {ds : List PyData}, Ents K H vs ds → vs.length = ds.length
  | [], [], _ => rfl
  | _ :: _, _ :: _, ⟨_, t⟩ => by simp [ents_len t]
  | [], _ :: _, h => h.elim
  | _ :: _, [], h => h.elim
end
/-! ### runs, part by part -/
theorem runL_get (R : Str → V) : ∀ (cs : List Cnd) (adr : List Int) (i st : Int) (j : Nat) (c : Cnd), cs[j]? = some c → (runL R adr i st cs)[j]? = some (run R (adr ++ [i + j * st]) c)
  | [], _, _, _, _, _, h => by simp at h
  | a :: cs, adr, i, st, 0, c, h => by
    simp at h; subst h
    simp [runL]
  | a :: cs, adr, i, st, j + 1, c, h => by
    rw [runL, List.getElem?_cons_succ, runL_get R cs adr (i + st) st j c (by simpa using h)]
    rw [show i + st + (j : Int) * st = i + ((j + 1 : Nat) : Int) * st by rw [Int.natCast_add, Int.add_mul]; omega]
theorem runL_len (R : Str → V) : ∀ (cs : List Cnd) (adr : List Int) (i st : Int), (runL R adr i st cs).length = cs.length
  | [], _, _, _ => by simp [runL]
  | a :: cs, adr, i, st => by simp [runL, runL_len R cs]
theorem allOf_step {dec found : Str} {r : Res} {rs : List Res} {i : Nat} (h : rs[i]? = some r) :
    allOf dec found (rs.drop i) = if r.1 = "error" ∨ r.1 = dec then r else
      ((allOf dec (if r.1 = "unknown" then r.1 else found) (rs.drop (i + 1))).1, r.2 ++ (allOf dec (if r.1 = "unknown" then r.1 else found) (rs.drop (i + 1))).2) := by
  have e : rs.drop i = r :: rs.drop (i + 1) := by
    obtain ⟨h1, h2⟩ := List.getElem?_eq_some_iff.mp h
    rw [← h2]; exact List.drop_eq_getElem_cons h1
  rw [e, allOf]
theorem firstOf_step {r : Res} {rs : List Res} {i : Nat} (h : rs[i]? = some r) :
    firstOf (rs.drop i) = if r.1 = "unknown" then ((firstOf (rs.drop (i + 1))).1, r.2 ++ (firstOf (rs.drop (i + 1))).2) else r := by
  have e : rs.drop i = r :: rs.drop (i + 1) := by
    obtain ⟨h1, h2⟩ := List.getElem?_eq_some_iff.mp h
    rw [← h2]; exact List.drop_eq_getElem_cons h1
  rw [e, firstOf]
theorem caseOf_step {r t e : Res} {rs ts : List Res} {i : Nat} (h : rs[i]? = some r) (h' : ts[i]? = some t) :
    caseOf (rs.drop i) (ts.drop i) e = if r.1 = "error" then r else if r.1 = "yes" then (t.1, r.2 ++ t.2) else
      ((caseOf (rs.drop (i + 1)) (ts.drop (i + 1)) e).1, r.2 ++ (caseOf (rs.drop (i + 1)) (ts.drop (i + 1)) e).2) := by
  have e1 : rs.drop i = r :: rs.drop (i + 1) := by
    obtain ⟨h1, h2⟩ := List.getElem?_eq_some_iff.mp h
    rw [← h2]; exact List.drop_eq_getElem_cons h1
  have e2 : ts.drop i = t :: ts.drop (i + 1) := by
    obtain ⟨h1, h2⟩ := List.getElem?_eq_some_iff.mp h'
    rw [← h2]; exact List.drop_eq_getElem_cons h1
  rw [e1, e2, caseOf]
/-! ### what is answered is one of four words -/
theorem word_ite {c : Prop} [Decidable c] {a b : Str} (h : a ∈ words) (h' : b ∈ words) : (if c then a else b) ∈ words := by split <;> assumption
theorem w_yes : ("yes" : Str) ∈ words := by decide +kernel
theorem w_no : ("no" : Str) ∈ words := by decide +kernel
theorem w_unk : ("unknown" : Str) ∈ words := by decide +kernel
theorem w_err : ("error" : Str) ∈ words := by decide +kernel
theorem numV_word (x : V) : numV x ∈ words := by
  unfold numV
  split
  · exact w_unk
  · exact w_yes
  · exact w_no
theorem askV_word (ss : List Stp) (sg : Str) (k : Int) (x : V) : askV ss sg k x ∈ words := by
  cases x with
  | non => exact w_unk
  | int i =>
    cases e : leadAll ss i with
    | some m => rw [askV_some e]; exact word_ite w_yes w_no
    | none => rw [askV_none e]; exact w_err
  | _ => exact w_err
theorem leaf_word {R : Str → V} {ns : List Str} {l : Leaf} (h : l.ok ns) : leafAns R l ∈ words := by
  cases l with
  | always w => exact h
  | empty n => exact word_ite w_yes w_no
  | number n => exact numV_word _
  | asks n ss sg k => exact askV_word _ _ _ _
theorem allOf_word {dec : Str} : ∀ {rs : List Res} {found : Str}, (∀ r ∈ rs, r.1 ∈ words) → found ∈ words → (allOf dec found rs).1 ∈ words
  | [], _, _, h => h
  | r :: rs, found, h, h' => by
    have h1 := h r List.mem_cons_self
    have ih := allOf_word (dec := dec) (rs := rs) (found := if r.1 = "unknown" then r.1 else found) (fun z hz => h z (List.mem_cons_of_mem _ hz)) (word_ite h1 h')
    unfold allOf
    by_cases c : r.1 = "error" ∨ r.1 = dec
    · rw [if_pos c]; exact h1
    · rw [if_neg c]; exact ih
theorem firstOf_word : ∀ {rs : List Res}, (∀ r ∈ rs, r.1 ∈ words) → (firstOf rs).1 ∈ words
  | [], _ => w_unk
  | r :: rs, h => by
    have h1 := h r List.mem_cons_self
    have ih := firstOf_word (rs := rs) fun z hz => h z (List.mem_cons_of_mem _ hz)
    unfold firstOf
    by_cases c : r.1 = "unknown"
    · rw [if_pos c]; exact ih
    · rw [if_neg c]; exact h1
theorem caseOf_word : ∀ {rs ts : List Res} {e : Res}, (∀ r ∈ rs, r.1 ∈ words) → (∀ r ∈ ts, r.1 ∈ words) → e.1 ∈ words → (caseOf rs ts e).1 ∈ words
  | [], _, e, _, _, h => by unfold caseOf; exact h
  | _ :: _, [], e, _, _, h => by unfold caseOf; exact h
  | r :: rs, t :: ts, e, h, h', he => by
    have h1 := h r List.mem_cons_self
    have h2 := h' t List.mem_cons_self
    have ih := caseOf_word (rs := rs) (ts := ts) (e := e) (fun z hz => h z (List.mem_cons_of_mem _ hz)) (fun z hz => h' z (List.mem_cons_of_mem _ hz)) he
    unfold caseOf
    by_cases c : r.1 = "error"
    · rw [if_pos c]; exact h1
    · rw [if_neg c]
      by_cases y : r.1 = "yes"
      · rw [if_pos y]; exact h2
      · rw [if_neg y]; exact ih
mutual
theorem run_word {R : Str → V} {ns : List Str} : ∀ (c : Cnd) (a : List Int), c.ok ns → (run R a c).1 ∈ words
  | .leaf l, a, h => by simp only [run]; exact leaf_word h
  | .not c, a, h => by
    rw [Cnd.ok] at h
    simp only [run]
    exact word_exch (run_word c _ h)
  | .node k cs, a, h => by
    rw [Cnd.ok] at h
    simp only [run]
    have := runL_word (R := R) cs a 0 1 h.2
    unfold nodeOf
    split
    · exact firstOf_word this
    · split
      · exact allOf_word this w_yes
      · exact allOf_word this w_no
  | .case ws ts e, a, h => by
    rw [Cnd.ok] at h
    simp only [run]
    exact caseOf_word (runL_word ws a 0 2 h.2.1) (runL_word ts a 1 2 h.2.2.1) (run_word e _ h.2.2.2)
theorem runL_word {R : Str → V} {ns : List Str} : ∀ (cs : List Cnd) (a : List Int) (i st : Int), Cnd.okL ns cs → ∀ r ∈ runL R a i st cs, r.1 ∈ words
  | [], a, i, st, _, r, h => by simp [runL] at h
  | c :: cs, a, i, st, h, r, hr => by
    rw [Cnd.okL] at h
    rw [runL] at hr
    rcases List.mem_cons.mp hr with rfl | hr
    · exact run_word c _ h.1
    · exact runL_word cs a _ _ h.2 r hr
end
/-! ### how many are asked -/
def lenL (rs : List Res) : Nat := (rs.map fun r => r.2.length).sum
theorem allOf_len {dec : Str} : ∀ {rs : List Res} {found : Str}, (allOf dec found rs).2.length ≤ lenL rs
  | [], _ => Nat.le_refl _
  | r :: rs, found => by
    have ih := allOf_len (dec := dec) (rs := rs) (found := if r.1 = "unknown" then r.1 else found)
    unfold allOf
    unfold lenL at ih ⊢
    rw [List.map_cons, List.sum_cons]
    by_cases c : r.1 = "error" ∨ r.1 = dec
    · rw [if_pos c]; omega
    · rw [if_neg c, List.length_append]; omega
theorem firstOf_len : ∀ {rs : List Res}, (firstOf rs).2.length ≤ lenL rs
  | [] => Nat.le_refl _
  | r :: rs => by
    have ih := firstOf_len (rs := rs)
    unfold firstOf
    unfold lenL at ih ⊢
    rw [List.map_cons, List.sum_cons]
    by_cases c : r.1 = "unknown"
    · rw [if_pos c, List.length_append]; omega
    · rw [if_neg c]; omega
theorem caseOf_len : ∀ {rs ts : List Res} {e : Res}, (caseOf rs ts e).2.length ≤ lenL rs + lenL ts + e.2.length
  | [], ts, e => by unfold caseOf; omega
  | _ :: _, [], e => by unfold caseOf; omega
  | r :: rs, t :: ts, e => by
    have ih := caseOf_len (rs := rs) (ts := ts) (e := e)
    unfold caseOf
    unfold lenL at ih ⊢
    rw [List.map_cons, List.sum_cons, List.map_cons, List.sum_cons]
    by_cases c : r.1 = "error"
    · rw [if_pos c]; omega
    · rw [if_neg c]
      by_cases y : r.1 = "yes"
      · rw [if_pos y, List.length_append]; omega
      · rw [if_neg y, List.length_append]; omega
mutual
theorem run_len (R : Str → V) : ∀ (c : Cnd) (a : List Int), (run R a c).2.length ≤ c.weight
  | .leaf l, a => by simp only [run, Cnd.weight]; show 1 ≤ 200000; decide
  | .not c, a => by
    have := run_len R c (a ++ [0])
    simp only [run, Cnd.weight]
    omega
  | .node k cs, a => by
    have := runL_lenL R cs a 0 1
    simp only [run, Cnd.weight]
    unfold nodeOf
    split
    · have := firstOf_len (rs := runL R a 0 1 cs); omega
    · split
      · have := allOf_len (dec := "no") (rs := runL R a 0 1 cs) (found := "yes"); omega
      · have := allOf_len (dec := "yes") (rs := runL R a 0 1 cs) (found := "no"); omega
  | .case ws ts e, a => by
    have h1 := runL_lenL R ws a 0 2
    have h2 := runL_lenL R ts a 1 2
    have h3 := run_len R e (a ++ [2 * (ws.length : Int)])
    have := caseOf_len (rs := runL R a 0 2 ws) (ts := runL R a 1 2 ts) (e := run R (a ++ [2 * (ws.length : Int)]) e)
    simp only [run, Cnd.weight]
    omega
theorem runL_lenL (R : Str → V) : ∀ (cs : List Cnd) (a : List Int) (i st : Int), lenL (runL R a i st cs) ≤ Cnd.weightL cs
  | [], a, i, st => by simp only [runL, Cnd.weightL]; exact Nat.le_refl _
  | c :: cs, a, i, st => by
    have h1 := run_len R c (a ++ [i])
    have h2 := runL_lenL R cs a (i + st) st
    rw [runL, Cnd.weightL]
    unfold lenL at h2 ⊢
    rw [List.map_cons, List.sum_cons]
    omega
end
theorem weightL_snoc : ∀ (cs : List Cnd) (c : Cnd), Cnd.weightL (cs ++ [c]) = Cnd.weightL cs + c.weight + 20
  | [], c => by simp [Cnd.weightL]
  | a :: cs, c => by simp only [List.cons_append, Cnd.weightL, weightL_snoc cs c]; omega
theorem weightL_take : ∀ (cs : List Cnd) (i : Nat), Cnd.weightL (cs.take i) ≤ Cnd.weightL cs
  | [], i => by simp
  | c :: cs, 0 => by simp [Cnd.weightL]
  | c :: cs, i + 1 => by simp only [List.take_succ_cons, Cnd.weightL]; have := weightL_take cs i; omega
theorem weightL_step {cs : List Cnd} {i : Nat} {c : Cnd} (h : cs[i]? = some c) : Cnd.weightL (cs.take (i + 1)) = Cnd.weightL (cs.take i) + c.weight + 20 ∧
    Cnd.weightL (cs.take i) + c.weight + 20 ≤ Cnd.weightL cs := by
  have e : Cnd.weightL (cs.take (i + 1)) = Cnd.weightL (cs.take i) + c.weight + 20 := by rw [takeS h, weightL_snoc]
  exact ⟨e, by rw [← e]; exact weightL_take _ _⟩
/-- an address, one step longer -/
theorem cat_adr {K : PySem.W.Frag} {H : Hp} {ad t : Addr} {adr : List Int} {i : Int} {Q : VK} (h1 : SqT K H ad (adr.map V.int)) (h2 : SqT K H t [.int i])
    (sz : adr.length ≤ 100000) (k : ∀ p H', Ex H H' → SqT K H' p ((adr ++ [i]).map V.int) → Q (.ref p) H') : rCatA K (.ref ad) (.ref t) H Q := by
  refine ⟨ad, t, _, _, rfl, rfl, h1, h2, ?_, fun h => ?_, fun _ h => (by cases h), fun _ _ p np => ?_⟩
  · rw [List.length_map]
    exact Nat.le_trans (show adr.length + 1 ≤ 100001 by omega) (by decide)
  · have : adr = [] := List.map_eq_nil_iff.mp h
    subst this
    exact k t H (Ex.refl H) h2
  · refine k p _ (Ex.new np) ?_
    rw [List.map_append]
    exact SqT.of upd_same
theorem inV2 (x a b : Str) : inV (.str x) [.str a, .str b] = true ↔ x = a ∨ x = b := by
  have e : inV (.str x) [.str a, .str b] = (a == x || b == x) := by simp [inV, eqV]
  rw [e, Bool.or_eq_true, beq_iff_eq, beq_iff_eq]
  exact ⟨fun h => h.imp Eq.symm Eq.symm, fun h => h.imp Eq.symm Eq.symm⟩
end Gx

set_option Elab.async false
set_option linter.all false
set_option maxRecDepth 100000
set_option maxHeartbeats 4000000
/-! What a condition answers by a plan: orders, every part asked or not, unknown taken for no or not. -/
namespace Gx
open PySem PySem.Spec PyProof.Rows L2 Evl
structure Md where
  ev : Bool
  lo : Bool
  ord : List Int → Option (List Nat)
def Md0 : Md := ⟨false, false, fun _ => none⟩
def Md.order (M : Md) (adr : List Int) (n : Nat) : List Nat := (M.ord adr).getD (List.range n)
def low (M : Md) (pl : Bool) (r : Res) : Res := (if (M.lo && pl && decide (r.1 = "unknown")) = true then "no" else r.1, r.2)
def decOf (k : Str) : Str := if k = "all" then "no" else "yes"
def endOf (dec : Str) (f : List Str) : Str := if dec ∈ f then dec else if ("unknown" : Str) ∈ f then "unknown" else exch dec
def goNode (dec : Str) (ev : Bool) : List Str → List Res → Res
  | f, [] => (endOf dec f, [])
  | f, r :: rs => if r.1 = "error" ∨ (r.1 = dec ∧ ev = false) then r else ((goNode dec ev (f ++ [r.1]) rs).1, r.2 ++ (goNode dec ev (f ++ [r.1]) rs).2)
def pick (rs : List Res) (o : List Nat) : List Res := o.filterMap fun i => rs[i]?
def nodeG (M : Md) (k : Str) (rs rs' : List Res) (o : List Nat) : Res := if k = "first" then firstOf rs' else goNode (decOf k) M.ev [] (pick rs o)
mutual
def rung (M : Md) (R : Str → V) : List Int → Bool → Cnd → Res
  | adr, pl, .leaf l => low M pl (leafAns R l, [entry adr (leafAns R l)])
  | adr, pl, .not c => low M pl (exch (rung M R (adr ++ [0]) false c).1, (rung M R (adr ++ [0]) false c).2)
  | adr, pl, .node k cs => low M pl (nodeG M k (rungL M R adr 0 1 pl cs) (rungL M R adr 0 1 false cs) (M.order adr cs.length))
  | adr, pl, .case ws ts e => low M pl (caseOf (rungL M R adr 0 2 true ws) (rungL M R adr 1 2 pl ts) (rung M R (adr ++ [2 * (ws.length : Int)]) pl e))
def rungL (M : Md) (R : Str → V) : List Int → Int → Int → Bool → List Cnd → List Res
  | _, _, _, _, [] => []
  | adr, i, st, pl, c :: cs => rung M R (adr ++ [i]) pl c :: rungL M R adr (i + st) st pl cs
end
theorem low0 (pl : Bool) (r : Res) : low Md0 pl r = r := by
  unfold low Md0
  rfl
theorem pick_range (rs : List Res) : pick rs (List.range rs.length) = rs := by
  unfold pick
  induction rs with
  | nil => rfl
  | cons r rs ih =>
    rw [List.length_cons, List.range_succ_eq_map, List.filterMap_cons, List.getElem?_cons_zero, List.filterMap_map]
    show r :: List.filterMap (fun i => (r :: rs)[i + 1]?) (List.range rs.length) = r :: rs
    simp only [List.getElem?_cons_succ]
    rw [ih]
theorem goNode_all {dec : Str} (hd : dec ≠ "unknown") : ∀ (rs : List Res) (f : List Str), dec ∉ f →
    goNode dec false f rs = allOf dec (if ("unknown" : Str) ∈ f then "unknown" else exch dec) rs
  | [], f, h => by
    unfold goNode allOf endOf
    rw [if_neg h]
  | r :: rs, f, h => by
    unfold goNode allOf
    by_cases e : r.1 = "error" ∨ r.1 = dec
    · rw [if_pos (e.imp id fun z => ⟨z, rfl⟩), if_pos e]
    · have e' : ¬ (r.1 = "error" ∨ (r.1 = dec ∧ false = false)) := fun z => e (z.imp id fun q => q.1)
      have h' : dec ∉ f ++ [r.1] := by
        rw [List.mem_append, List.mem_singleton]
        exact fun z => z.elim h fun q => e (.inr q.symm)
      rw [if_neg e', if_neg e, goNode_all hd rs _ h']
      have : (if ("unknown" : Str) ∈ f ++ [r.1] then ("unknown" : Str) else exch dec) = (if r.1 = "unknown" then r.1 else if ("unknown" : Str) ∈ f then "unknown" else exch dec) := by
        by_cases u : r.1 = "unknown"
        · rw [if_pos u, if_pos (by rw [u]; simp), u]
        · rw [if_neg u]
          by_cases v : ("unknown" : Str) ∈ f
          · rw [if_pos v, if_pos (List.mem_append_left _ v)]
          · rw [if_neg v, if_neg]
            rw [List.mem_append, List.mem_singleton]
            exact fun z => z.elim v fun q => u q.symm
      rw [this]
theorem ex_no : exch "no" = "yes" := by decide +kernel
theorem ex_yes : exch "yes" = "no" := by decide +kernel
theorem no_unk : ("no" : Str) ≠ "unknown" := by decide +kernel
theorem yes_unk : ("yes" : Str) ≠ "unknown" := by decide +kernel
theorem yes_all : ¬ ("yes" : Str) = "all" := by decide +kernel
mutual
theorem rung_plain (R : Str → V) : ∀ (c : Cnd) (adr : List Int) (pl : Bool), rung Md0 R adr pl c = run R adr c
  | .leaf l, adr, pl => by rw [rung, run, low0]
  | .not c, adr, pl => by rw [rung, run, low0, rung_plain R c]
  | .node k cs, adr, pl => by
    rw [rung, run, low0, rungL_plain R cs, rungL_plain R cs]
    unfold nodeG nodeOf
    have e : Md0.order adr cs.length = List.range (runL R adr 0 1 cs).length := by rw [runL_len]; rfl
    rw [e, pick_range]
    by_cases h : k = "first"
    · rw [if_pos h, if_pos h]
    · rw [if_neg h, if_neg h]
      unfold decOf
      by_cases h2 : k = "all"
      · rw [if_pos h2, if_pos h2]
        show goNode "no" false [] _ = _
        rw [goNode_all no_unk _ _ List.not_mem_nil, if_neg List.not_mem_nil, ex_no]
      · rw [if_neg h2, if_neg h2]
        show goNode "yes" false [] _ = _
        rw [goNode_all yes_unk _ _ List.not_mem_nil, if_neg List.not_mem_nil, ex_yes]
  | .case ws ts e, adr, pl => by rw [rung, run, low0, rungL_plain R ws, rungL_plain R ts, rung_plain R e]
theorem rungL_plain (R : Str → V) : ∀ (cs : List Cnd) (adr : List Int) (i st : Int) (pl : Bool), rungL Md0 R adr i st pl cs = runL R adr i st cs
  | [], _, _, _, _ => by rw [rungL, runL]
  | c :: cs, adr, i, st, pl => by rw [rungL, runL, rung_plain R c, rungL_plain R cs]
end
theorem rungL_get (M : Md) (R : Str → V) : ∀ (cs : List Cnd) (adr : List Int) (i st : Int) (pl : Bool) (j : Nat) (c : Cnd), cs[j]? = some c →
    (rungL M R adr i st pl cs)[j]? = some (rung M R (adr ++ [i + j * st]) pl c)
  | [], _, _, _, _, _, _, h => by simp at h
  | a :: cs, adr, i, st, pl, 0, c, h => by
    simp at h; subst h
    simp [rungL]
  | a :: cs, adr, i, st, pl, j + 1, c, h => by
    rw [rungL, List.getElem?_cons_succ, rungL_get M R cs adr (i + st) st pl j c (by simpa using h)]
    rw [show i + st + (j : Int) * st = i + ((j + 1 : Nat) : Int) * st by rw [Int.natCast_add, Int.add_mul]; omega]
theorem rungL_len (M : Md) (R : Str → V) : ∀ (cs : List Cnd) (adr : List Int) (i st : Int) (pl : Bool), (rungL M R adr i st pl cs).length = cs.length
  | [], _, _, _, _ => by simp [rungL]
  | a :: cs, adr, i, st, pl => by simp [rungL, rungL_len M R cs]
/-- the orders of a plan are of parts that there are -/
def OrdAt (M : Md) (adr : List Int) (n : Nat) : Prop := ∀ o, M.ord adr = some o → (∀ i ∈ o, i < n) ∧ o.Nodup
mutual
def OrdOk (M : Md) : List Int → Cnd → Prop
  | _, .leaf _ => True
  | adr, .not c => OrdOk M (adr ++ [0]) c
  | adr, .node _ cs => OrdAt M adr cs.length ∧ OrdOkL M adr 0 1 cs
  | adr, .case ws ts e => OrdOkL M adr 0 2 ws ∧ OrdOkL M adr 1 2 ts ∧ OrdOk M (adr ++ [2 * (ws.length : Int)]) e
def OrdOkL (M : Md) : List Int → Int → Int → List Cnd → Prop
  | _, _, _, [] => True
  | adr, i, st, c :: cs => OrdOk M (adr ++ [i]) c ∧ OrdOkL M adr (i + st) st cs
end
theorem ordL_get {M : Md} : ∀ {cs : List Cnd} {adr : List Int} {i st : Int} {j : Nat} {c : Cnd}, OrdOkL M adr i st cs → cs[j]? = some c → OrdOk M (adr ++ [i + j * st]) c
  | [], _, _, _, _, _, _, h => by simp at h
  | a :: cs, adr, i, st, 0, c, ⟨h1, _⟩, h => by
    simp at h; subst h
    simpa using h1
  | a :: cs, adr, i, st, j + 1, c, ⟨_, h2⟩, h => by
    have := ordL_get h2 (j := j) (by simpa using h)
    rwa [show i + st + (j : Int) * st = i + ((j + 1 : Nat) : Int) * st by rw [Int.natCast_add, Int.add_mul]; omega] at this
mutual
theorem ord0 : ∀ (c : Cnd) (adr : List Int), OrdOk Md0 adr c
  | .leaf _, _ => by rw [OrdOk]; trivial
  | .not c, adr => by rw [OrdOk]; exact ord0 c _
  | .node _ cs, adr => by rw [OrdOk]; exact ⟨fun o h => (nomatch h), ordL0 cs _ _ _⟩
  | .case ws ts e, adr => by rw [OrdOk]; exact ⟨ordL0 ws _ _ _, ordL0 ts _ _ _, ord0 e _⟩
theorem ordL0 : ∀ (cs : List Cnd) (adr : List Int) (i st : Int), OrdOkL Md0 adr i st cs
  | [], _, _, _ => by rw [OrdOkL]; trivial
  | c :: cs, adr, i, st => by rw [OrdOkL]; exact ⟨ord0 c _, ordL0 cs _ _ _⟩
end
theorem goNode_step {dec : Str} {ev : Bool} {f : List Str} {r : Res} {rs : List Res} {i : Nat} (h : rs[i]? = some r) :
    goNode dec ev f (rs.drop i) = if r.1 = "error" ∨ (r.1 = dec ∧ ev = false) then r else
      ((goNode dec ev (f ++ [r.1]) (rs.drop (i + 1))).1, r.2 ++ (goNode dec ev (f ++ [r.1]) (rs.drop (i + 1))).2) := by
  have e : rs.drop i = r :: rs.drop (i + 1) := by
    obtain ⟨h1, h2⟩ := List.getElem?_eq_some_iff.mp h
    rw [← h2]; exact List.drop_eq_getElem_cons h1
  rw [e, goNode]
theorem pick_all : ∀ {o : List Nat} {rs : List Res}, (∀ i ∈ o, i < rs.length) → (pick rs o).length = o.length ∧ ∀ (j i : Nat), o[j]? = some i → (pick rs o)[j]? = rs[i]?
  | [], rs, _ => ⟨rfl, fun j i h => by simp at h⟩
  | a :: o, rs, h => by
    have ha : a < rs.length := h a List.mem_cons_self
    have e : rs[a]? = some rs[a] := List.getElem?_eq_getElem ha
    obtain ⟨l, g⟩ := pick_all (o := o) (rs := rs) fun i hi => h i (List.mem_cons_of_mem _ hi)
    have p : pick rs (a :: o) = rs[a] :: pick rs o := by
      unfold pick
      rw [List.filterMap_cons, e]
    rw [p]
    refine ⟨by rw [List.length_cons, List.length_cons, l], fun j i hj => ?_⟩
    cases j with
    | zero => simp at hj; subst hj; rw [e]; rfl
    | succ j => rw [List.getElem?_cons_succ]; exact g j i (by simpa using hj)
/-! ### words and lengths -/
theorem low_word {M : Md} {pl : Bool} {r : Res} (h : r.1 ∈ words) : (low M pl r).1 ∈ words := by
  unfold low
  exact word_ite w_no h
theorem goNode_word {dec : Str} {ev : Bool} (hd : dec ∈ words) : ∀ {rs : List Res} {f : List Str}, (∀ r ∈ rs, r.1 ∈ words) → (goNode dec ev f rs).1 ∈ words
  | [], f, _ => by
    unfold goNode endOf
    exact word_ite hd (word_ite w_unk (word_exch hd))
  | r :: rs, f, h => by
    unfold goNode
    split
    · exact h r List.mem_cons_self
    · exact goNode_word hd fun q hq => h q (List.mem_cons_of_mem _ hq)
theorem mem_pick {rs : List Res} {o : List Nat} {r : Res} (h : r ∈ pick rs o) : r ∈ rs := by
  unfold pick at h
  obtain ⟨i, _, e⟩ := List.mem_filterMap.mp h
  exact List.mem_of_getElem? e
theorem dec_word (k : Str) : decOf k ∈ words := word_ite w_no w_yes
mutual
theorem rung_word {M : Md} {R : Str → V} {ns : List Str} : ∀ (c : Cnd) (a : List Int) (pl : Bool), c.ok ns → (rung M R a pl c).1 ∈ words
  | .leaf l, a, pl, h => by
    rw [rung]
    exact low_word (leaf_word (by rw [Cnd.ok] at h; exact h))
  | .not c, a, pl, h => by
    rw [rung]
    exact low_word (word_exch (rung_word c _ _ (by rw [Cnd.ok] at h; exact h)))
  | .node k cs, a, pl, h => by
    rw [Cnd.ok] at h
    rw [rung]
    refine low_word ?_
    unfold nodeG
    split
    · exact firstOf_word (rungL_word cs _ _ _ _ h.2)
    · exact goNode_word (dec_word k) fun r hr => rungL_word cs _ _ _ _ h.2 r (mem_pick hr)
  | .case ws ts e, a, pl, h => by
    rw [Cnd.ok] at h
    rw [rung]
    exact low_word (caseOf_word (rungL_word ws _ _ _ _ h.2.1) (rungL_word ts _ _ _ _ h.2.2.1) (rung_word e _ _ h.2.2.2))
theorem rungL_word {M : Md} {R : Str → V} {ns : List Str} : ∀ (cs : List Cnd) (a : List Int) (i st : Int) (pl : Bool), Cnd.okL ns cs → ∀ r ∈ rungL M R a i st pl cs, r.1 ∈ words
  | [], _, _, _, _, _, r, hr => by rw [rungL] at hr; cases hr
  | c :: cs, a, i, st, pl, h, r, hr => by
    rw [Cnd.okL] at h
    rw [rungL] at hr
    rcases List.mem_cons.mp hr with rfl | hr
    · exact rung_word c _ _ h.1
    · exact rungL_word cs _ _ _ _ h.2 r hr
end
/-- an address, one step longer: a tuple of its own -/
theorem cat_tup {K : PySem.W.Frag} {H : Hp} {ad t : Addr} {adr : List Int} {i : Int} {Q : VK} (h1 : H ad = some (.tup (adr.map V.int))) (h2 : H t = some (.tup [.int i]))
    (sz : adr.length ≤ 100000) (k : ∀ p H', Ex H H' → H' p = some (.tup ((adr ++ [i]).map V.int)) → Q (.ref p) H') : rCatA K (.ref ad) (.ref t) H Q := by
  refine ⟨ad, t, _, _, rfl, rfl, SqT.of h1, SqT.of h2, ?_, fun h => ?_, fun _ h => (by cases h), fun _ _ p np => ?_⟩
  · rw [List.length_map]
    exact Nat.le_trans (show adr.length + 1 ≤ 100001 by omega) (by decide)
  · have : adr = [] := List.map_eq_nil_iff.mp h
    subst this
    exact k t H (Ex.refl H) h2
  · refine k p _ (Ex.new np) ?_
    rw [List.map_append]
    exact upd_same
end Gx

set_option Elab.async false
set_option linter.all false
set_option maxRecDepth 100000
set_option maxHeartbeats 4000000
/-! Own classes: what the head tells of a method, of a class. -/
namespace Gx
open PySem PySem.Spec PyProof.Rows L2 Evl
structure MDef (K : PySem.W.Frag) (C : Addr) (m qual : Str) (st : Stmt) (f : Addr) (fd : FuncData) (ps : List Str) : Prop where
  fn : Fun K m qual st f fd
  mt : Meth K C m f
  bd : Binds K fd ps []
theorem mdef_mk {K : PySem.W.Frag} {C : Addr} {m qual : Str} {st : Stmt} {f : Addr} {ps : List Str}
    (a : PySem.W.findIn K (.ref C) m = some (some (.ref f))) (i : PySem.W.isFn K (.ref f) = true) (d : IsDef K m qual st f)
    (hb : ∀ (kV doc pm : Value) (an : Option Addr) (cdv ct : Value) (us : List Value), us.length = ps.length →
      bindArgs (PySem.W.fnOf m qual (defArgs st) (defBody st) (defScope st) .none kV doc pm an cdv ct) ⟨us, []⟩ = pure (ps.zip us)) :
    ∃ fd, MDef K C m qual st f fd ps := by
  have kp : PySem.W.keepIn K (.ref f) = true := by obtain ⟨_, _, _, _, _, _, _, _, _, _, _, k⟩ := d; exact k
  obtain ⟨fd, F⟩ := d.fn
  exact ⟨fd, F, ⟨a, i, kp⟩, F.binds hb⟩
/-! ### the one who asks: its fields -/
structure AskerT (K : PySem.W.Frag) (mg : Str → Option Value) (C fI : Addr) : Prop where
  cl : Cls K C
  mak : Mk K C fI
  gC : mg "Asker" = some (.ref C)
  row : NoAttr K C "row"
  plan : NoAttr K C "plan"
  every : NoAttr K C "every"
  lowers : NoAttr K C "lowers"
  trail : NoAttr K C "trail"
def askF (r d : Addr) (ev lo : Bool) (tr : Addr) : List (Str × V) := [("row", .ref r), ("plan", .ref d), ("every", .bl ev), ("lowers", .bl lo), ("trail", .ref tr)]
section
variable {r d tr : Addr} {ev lo : Bool}
theorem ask_row : (askF r d ev lo tr).lookup ("row" : Str) = some (.ref r) := by unfold askF; simp [List.lookup]
theorem ask_plan : (askF r d ev lo tr).lookup ("plan" : Str) = some (.ref d) := by
  unfold askF
  have e1 : (("plan" : Str) == "row") = false := by decide +kernel
  have e2 : (("plan" : Str) == "plan") = true := by decide +kernel
  simp only [List.lookup, e1, e2]
theorem ask_every : (askF r d ev lo tr).lookup ("every" : Str) = some (.bl ev) := by
  unfold askF
  have e1 : (("every" : Str) == "row") = false := by decide +kernel
  have e2 : (("every" : Str) == "plan") = false := by decide +kernel
  have e3 : (("every" : Str) == "every") = true := by decide +kernel
  simp only [List.lookup, e1, e2, e3]
theorem ask_lowers : (askF r d ev lo tr).lookup ("lowers" : Str) = some (.bl lo) := by
  unfold askF
  have e1 : (("lowers" : Str) == "row") = false := by decide +kernel
  have e2 : (("lowers" : Str) == "plan") = false := by decide +kernel
  have e3 : (("lowers" : Str) == "every") = false := by decide +kernel
  have e4 : (("lowers" : Str) == "lowers") = true := by decide +kernel
  simp only [List.lookup, e1, e2, e3, e4]
theorem ask_trail : (askF r d ev lo tr).lookup ("trail" : Str) = some (.ref tr) := by
  unfold askF
  have e1 : (("trail" : Str) == "row") = false := by decide +kernel
  have e2 : (("trail" : Str) == "plan") = false := by decide +kernel
  have e3 : (("trail" : Str) == "every") = false := by decide +kernel
  have e4 : (("trail" : Str) == "lowers") = false := by decide +kernel
  have e5 : (("trail" : Str) == "trail") = true := by decide +kernel
  simp only [List.lookup, e1, e2, e3, e4, e5]
def askNames : List Str := ["row", "plan", "every", "lowers", "trail"]
theorem ask_no {m : Str} (h : m ∉ askNames) : (askF r d ev lo tr).lookup m = none := by
  unfold askNames at h
  simp only [List.mem_cons, List.not_mem_nil, or_false, not_or] at h
  obtain ⟨h1, h2, h3, h4, h5⟩ := h
  have e : ∀ {x y : Str}, x ≠ y → (x == y) = false := fun h => beq_false_of_ne h
  unfold askF
  simp only [List.lookup, e h1, e h2, e h3, e h4, e h5]
theorem ask_puts (x1 x2 x3 x4 x5 : V) : putF "trail" x5 (putF "lowers" x4 (putF "every" x3 (putF "plan" x2 (putF "row" x1 [])))) =
    [(("row" : Str), x1), ("plan", x2), ("every", x3), ("lowers", x4), ("trail", x5)] := by
  have e1 : ¬ ("row" : Str) = "plan" := by decide +kernel
  have e2 : ¬ ("row" : Str) = "every" := by decide +kernel
  have e3 : ¬ ("row" : Str) = "lowers" := by decide +kernel
  have e4 : ¬ ("row" : Str) = "trail" := by decide +kernel
  have e5 : ¬ ("plan" : Str) = "every" := by decide +kernel
  have e6 : ¬ ("plan" : Str) = "lowers" := by decide +kernel
  have e7 : ¬ ("plan" : Str) = "trail" := by decide +kernel
  have e8 : ¬ ("every" : Str) = "lowers" := by decide +kernel
  have e9 : ¬ ("every" : Str) = "trail" := by decide +kernel
  have e0 : ¬ ("lowers" : Str) = "trail" := by decide +kernel
  simp only [putF, e1, e2, e3, e4, e5, e6, e7, e8, e9, e0, if_false]
end
theorem putF_le {f : Str} {v : V} {fs : List (Str × V)} {n : Nat} (h : fs.length ≤ n) : (putF f v fs).length ≤ n + 1 :=
  Nat.le_trans (length_putF _ _ _) (Nat.succ_le_succ h)
theorem lt1000 {n m : Nat} (h : n ≤ m) (h2 : m ≤ 50) : n < 1000 := by omega
/-- a plan's dict: the orders of addresses -/
def PlanAt (H : Hp) (d : Addr) (M : Md) (tr : Addr) : Prop := ∃ kvs : List (List Key × V), H d = some (.dT kvs) ∧
  ∀ adr : List Int, match M.ord adr with
    | none => valV kvs (adr.map Sum.inl) = none
    | some o => ∃ p : Addr, valV kvs (adr.map Sum.inl) = some (.ref p) ∧ H p = some (.lst (o.map fun i : Nat => V.int i)) ∧ p ≠ tr
theorem PlanAt.to {H H' : Hp} {d tr : Addr} {M : Md} {ts : List V} (h : PlanAt H d M tr) (e : ExB tr H H') (ht : H tr = some (.lst ts)) : PlanAt H' d M tr := by
  obtain ⟨kvs, h1, h2⟩ := h
  refine ⟨kvs, e _ _ (fun z => by subst z; rw [ht] at h1; cases h1) h1, fun adr => ?_⟩
  have h2 := h2 adr
  cases q : M.ord adr with
  | none => rw [q] at h2; exact h2
  | some o =>
    rw [q] at h2
    obtain ⟨p, h3, h4, h5⟩ := h2
    exact ⟨p, h3, e _ _ h5 h4, h5⟩
theorem plan0 {H : Hp} {d tr : Addr} (h : H d = some (.dT [])) : PlanAt H d Md0 tr := ⟨[], h, fun adr => rfl⟩
/-! ### what different parts weigh together -/
theorem sum_diff (f : Nat → Nat) : ∀ (n : Nat) (o : List Nat), o.Nodup → (∀ i ∈ o, i < n) → (o.map f).sum ≤ ((List.range n).map f).sum
  | 0, o, _, h => by
    cases o with
    | nil => simp
    | cons a o => exact absurd (h a List.mem_cons_self) (Nat.not_lt_zero _)
  | n + 1, o, nd, h => by
    have ih := sum_diff f n (o.filter fun i => decide (i ≠ n)) (nd.filter _) fun i hi => by
      obtain ⟨h1, h2⟩ := List.mem_filter.mp hi
      have := h i h1
      have := of_decide_eq_true h2
      omega
    have : ∀ l : List Nat, l.Nodup → (l.map f).sum ≤ ((l.filter fun i => decide (i ≠ n)).map f).sum + f n := by
      intro l
      induction l with
      | nil => intro _; simp
      | cons a l ihl =>
        intro nd
        obtain ⟨n1, n2⟩ := List.nodup_cons.mp nd
        by_cases e : a = n
        · subst e
          have : l.filter (fun i => decide (i ≠ a)) = l := List.filter_eq_self.mpr fun i hi => decide_eq_true fun z => n1 (z ▸ hi)
          rw [List.filter_cons_of_neg (by simp), this, List.map_cons, List.sum_cons]
          omega
        · rw [List.filter_cons_of_pos (by simp [e]), List.map_cons, List.map_cons, List.sum_cons, List.sum_cons]
          have := ihl n2
          omega
    have := this o nd
    rw [List.range_succ, List.map_append, List.sum_append]
    simp only [List.map_cons, List.map_nil, List.sum_cons, List.sum_nil]
    omega
def wAt (cs : List Cnd) (i : Nat) : Nat := match cs[i]? with | some c => c.weight | none => 0
theorem wAt_sum : ∀ cs : List Cnd, ((List.range cs.length).map (wAt cs)).sum ≤ Cnd.weightL cs
  | [] => by simp
  | c :: cs => by
    rw [List.length_cons, List.range_succ_eq_map, List.map_cons, List.sum_cons, List.map_map, Cnd.weightL]
    have e : (wAt (c :: cs) ∘ Nat.succ) = wAt cs := by funext i; simp [wAt]
    have e0 : wAt (c :: cs) 0 = c.weight := rfl
    rw [e, e0]
    have := wAt_sum cs
    omega
end Gx
namespace Gx
theorem nodup_len {n : Nat} {o : List Nat} (nd : o.Nodup) (h : ∀ i ∈ o, i < n) : o.length ≤ n := by
  have e : ∀ l : List Nat, (l.map fun _ => 1).sum = l.length := by
    intro l
    induction l with
    | nil => rfl
    | cons a l ih => rw [List.map_cons, List.sum_cons, ih, List.length_cons]; omega
  have := sum_diff (fun _ => 1) n o nd h
  rw [e, e, List.length_range] at this
  exact this
end Gx
namespace Gx
open PySem PySem.Spec PyProof.Rows L2 Evl
theorem flat_strs (f : List Str) : (f.map V.str).all flatV = true := by
  rw [List.all_eq_true]
  intro x hx
  obtain ⟨y, _, rfl⟩ := List.mem_map.mp hx
  rfl
theorem inV_strs (x : Str) (f : List Str) : inV (.str x) (f.map V.str) = decide (x ∈ f) := by
  unfold inV
  rw [List.any_map]
  by_cases h : x ∈ f
  · rw [decide_eq_true h, List.any_eq_true]
    exact ⟨x, h, by simp [eqV]⟩
  · rw [decide_eq_false h, List.any_eq_false]
    intro y hy e
    have e : (y == x) = true := e
    rw [beq_iff_eq] at e
    exact h (e ▸ hy)
end Gx

set_option Elab.async false
set_option linter.all false
set_option maxRecDepth 100000
set_option maxHeartbeats 4000000
namespace K41
open PySem PySem.Spec PyProof.Rows L2 Evl Gx
abbrev s_Wrong___init : Stmt := inClass (topS 2) 0
theorem sc_Wrong___init : FnScope ["self", "place"] ["self", "place"] (defScope s_Wrong___init) := ⟨rfl, rfl, rfl, by decide +kernel, rfl, by decide +kernel, by decide +kernel⟩
abbrev s_is_mode : Stmt := topS 7
theorem sc_is_mode : FnScope ["thing"] ["thing"] (defScope s_is_mode) := ⟨rfl, rfl, rfl, by decide +kernel, rfl, by decide +kernel, by decide +kernel⟩
abbrev s_Planner___init : Stmt := inClass (topS 8) 0
theorem sc_Planner___init : FnScope ["self", "mode", "unknown", "folds", "beneath", "early", "index", "truth"] ["self", "mode", "unknown", "folds", "beneath", "early"] (defScope s_Planner___init) := ⟨rfl, rfl, rfl, by decide +kernel, rfl, by decide +kernel, by decide +kernel⟩
def modes : List Str := ["every", "free", "text"]
structure ConT (K : PySem.W.Frag) (mg : Str → Option Value) (x : Str) (a : Addr) (xs : List V) : Prop where
  mg : mg x = some (.ref a)
  at_ : ∀ H : Hp, SqT K H a xs
/-- what isinstance says of a value -/
def isS : V → Bool
  | .str _ => true
  | _ => false
def isB : V → Bool
  | .bl _ => true
  | _ => false
structure Tells (K : PySem.W.Frag) (H : Hp) (x : V) : Prop where
  ex : ∃ t, TyX K H x t ∧ PySem.W.kitOne K t (.type "str") = some (isS x) ∧ PySem.W.kitOne K t (.type "bool") = some (isB x)
theorem Tells.bl {K : PySem.W.Frag} {H : Hp} (b : Bool) : Tells K H (.bl b) := ⟨.type "bool", .base (.bl b), kit_ty (by show _ = some false; decide +kernel), kit_ty (by show _ = some true; decide +kernel)⟩
theorem Tells.str {K : PySem.W.Frag} {H : Hp} (x : Str) : Tells K H (.str x) := ⟨.type "str", .base (.str x), kit_ty (by show _ = some true; decide +kernel), kit_ty (by show _ = some false; decide +kernel)⟩
theorem Tells.non {K : PySem.W.Frag} {H : Hp} : Tells K H .non := ⟨.type "NoneType", .base .non, kit_ty (by show _ = some false; decide +kernel), kit_ty (by show _ = some false; decide +kernel)⟩
theorem Tells.int {K : PySem.W.Frag} {H : Hp} (i : Int) : Tells K H (.int i) := ⟨.type "int", .base (.int i), kit_ty (by show _ = some false; decide +kernel), kit_ty (by show _ = some false; decide +kernel)⟩
theorem Tells.lst {K : PySem.W.Frag} {H : Hp} {a : Addr} {xs : List V} (h : H a = some (.lst xs)) : Tells K H (.ref a) := ⟨.type "list", .base (.lst h), kit_ty (by show _ = some false; decide +kernel), kit_ty (by show _ = some false; decide +kernel)⟩
theorem Tells.tup {K : PySem.W.Frag} {H : Hp} {a : Addr} {xs : List V} (h : H a = some (.tup xs)) : Tells K H (.ref a) := ⟨.type "tuple", .base (.tup h), kit_ty (by show _ = some false; decide +kernel), kit_ty (by show _ = some false; decide +kernel)⟩
theorem Tells.dK {K : PySem.W.Frag} {H : Hp} {a : Addr} {xs : List (Key × V)} (h : H a = some (.dK xs)) : Tells K H (.ref a) := ⟨.type "dict", .base (.dK h), kit_ty (by show _ = some false; decide +kernel), kit_ty (by show _ = some false; decide +kernel)⟩
theorem Tells.to {K : PySem.W.Frag} {H H' : Hp} {x : V} (h : Tells K H x) (e : Ex H H') : Tells K H' x := by
  obtain ⟨t, h1, h2⟩ := h
  refine ⟨t, ?_, h2⟩
  cases h1 with
  | base b =>
    refine .base ?_
    cases b with
    | non => exact .non
    | bl x => exact .bl x
    | int i => exact .int i
    | str x => exact .str x
    | flt x => exact .flt x
    | lst q => exact .lst (e _ _ q)
    | frz q => exact .frz (e _ _ q)
    | tup q => exact .tup (e _ _ q)
    | dK q => exact .dK (e _ _ q)
    | dT q => exact .dT (e _ _ q)
    | ins q c a n t m => exact .ins (e _ _ q) c a n t m
  | byt b => exact .byt b
  | set q => exact .set (e _ _ q)
  | kList a b => exact .kList a b
  | kTuple a b => exact .kTuple a b
  | kDict a b => exact .kDict a b
  | fTuple q => exact .fTuple (e _ _ q)
  | fDict q => exact .fDict (e _ _ q)
def okMode : V → Bool
  | .str s => decide (s ∈ modes)
  | _ => false
def spIsMode (K : PySem.W.Frag) : Sp := fun vs H Q _ => ∃ v, vs = [v] ∧ Tells K H v ∧ Q (.bl (okMode v)) H
structure PlannerT (K : PySem.W.Frag) (mg : Str → Option Value) (C fI : Addr) : Prop where
  cl : Cls K C
  mak : Mk K C fI
  gC : mg "Planner" = some (.ref C)
  nm : NoAttr K C "_mode"
  nt : NoAttr K C "_truths"
def plF (m : V) (t : Addr) : List (Str × V) := [("_mode", m), ("_truths", .ref t)]
theorem pl_mode {m : V} {t : Addr} : (plF m t).lookup ("_mode" : Str) = some m := by unfold plF; simp [List.lookup]
theorem pl_truths {m : V} {t : Addr} : (plF m t).lookup ("_truths" : Str) = some (.ref t) := by
  unfold plF
  have e1 : (("_truths" : Str) == "_mode") = false := by decide +kernel
  have e2 : (("_truths" : Str) == "_truths") = true := by decide +kernel
  simp only [List.lookup, e1, e2]
theorem pl_puts (x y : V) : putF "_truths" y (putF "_mode" x []) = [(("_mode" : Str), x), ("_truths", y)] := by
  have e1 : ¬ ("_mode" : Str) = "_truths" := by decide +kernel
  simp only [putF, e1, if_false]
/-- the first one that is not as described -/
def badAt (m : V) (xs : List V) : Option Nat := if okMode m = false then some 0 else (xs.findIdx? fun x => !isB x).map (· + 1)
def WishP (C : Addr) (E : XK) (p : Addr) (H : Hp) (j : Nat) : Prop := ∀ d H', (∀ b o, H b = some o → b ≠ p → H' b = some o) → H' d = some (.xd [("place", .int (j : Nat))]) → E (.ref C) (some d) H'
def spPlnI (K : PySem.W.Frag) (C CW : Addr) : Sp := fun vs H Q E => ∃ (p dx : Addr) (m x1 x2 x3 x4 : V), vs = [.ref p, m, x1, x2, x3, x4] ∧ H p = some (.ins C dx []) ∧
  (∀ x ∈ [m, x1, x2, x3, x4], ∀ H', (∀ b o, H b = some o → b ≠ p → H' b = some o) → Tells K H' x) ∧
  (badAt m [x1, x2, x3, x4] = none → ∀ (t : Addr) (H' : Hp), H t = none → H' p = some (.ins C dx (plF m t)) → H' t = some (.tup [x1, x2, x3, x4]) → (∀ b o, H b = some o → b ≠ p → H' b = some o) → Q .non H') ∧
  (∀ j, badAt m [x1, x2, x3, x4] = some j → WishP CW E p H j)
section
variable {P : Program} {w : World} {K : PySem.W.Frag} {mg : Str → Option Value} {base : Heap} {C CW fI fW a_MODES f_is_mode : Addr} {fdI fdW fd_is_mode : FuncData}
theorem ok_initW (e_Wrong : Err K mg "Wrong" "Wrong.__init__" "place" ["self", "place"] s_Wrong___init CW fW fdW) :
    FnOk P w K mg base CX0 1 fW fdW ["self", "place"] (spInit CW "place") := by
  refine e_Wrong.fn.ok sc_Wrong___init (fun vs H Q E h => ?_) (fun cdv A outer s H vs Q E hr h => ?_)
  · obtain ⟨a, v, rfl, _⟩ := h
    rfl
  · obtain ⟨a, v, rfl, ha, k⟩ := h
    refine ⟨_, (pss_one (ps_ost (pv 0) (pv 1))), ?_⟩
    exact ⟨_, rfl, _, rfl, a, CW, rfl, e_Wrong.T, e_Wrong.no, .inl ⟨ha, k⟩⟩
theorem ok_is_mode {f : Addr} {fd : FuncData} (D : Def K mg "_is_mode" s_is_mode f fd ["thing"]) (bi : Bi mg) (C_MODES : ConT K mg "MODES" a_MODES (modes.map V.str)) :
    FnOk P w K mg base CX0 1 f fd ["thing"] (spIsMode K) := by
  refine D.fn.ok sc_is_mode (fun vs H Q E h => ?_) (fun cdv A outer s0 H vs Q E hr h => ?_)
  · obtain ⟨v, rfl, _⟩ := h
    rfl
  · obtain ⟨v, rfl, ⟨t, ht, h1, h2⟩, k⟩ := h
    refine ⟨_, (pss_one (ps_ret (pe_and (pe_callB call_isi (by rfl) bi.isinstance bt_isinstance (pa_cons (pv 0) (pa_cons (pe_bltn (v := .ty "str") rfl bi.str bt_str rfl) pa_nil))) (pe_one (pe_cmpR op_in_seq (pv 0) (pe_glob (v := .ref a_MODES) rfl C_MODES.mg rfl) (by rfl)))))), ?_⟩
    refine ⟨_, rfl, v, .ty "str", t, .type "str", isS v, rfl, .ty "str", ht, h1, _, rfl, ?_⟩
    cases v with
    | str x =>
      refine if_t rfl ⟨_, rfl, a_MODES, modes.map V.str, rfl, .inr (C_MODES.at_ H), rfl, flat_strs modes, ?_⟩
      rw [if_neg Bool.false_ne_true, inV_strs]
      exact k
    | _ => exact if_f rfl k
theorem firstB (m : V) (xs : List V) (hm : okMode m = true) (j : Nat) (x : V) (h : xs[j]? = some x) (hx : isB x = false) (hb : ∀ i z, i < j → xs[i]? = some z → isB z = true) : badAt m xs = some (j + 1) := by
  unfold badAt
  rw [if_neg (by rw [hm]; exact Bool.noConfusion)]
  have : xs.findIdx? (fun x => !isB x) = some j := by
    rw [List.findIdx?_eq_some_iff_getElem]
    obtain ⟨h1, h2⟩ := List.getElem?_eq_some_iff.mp h
    refine ⟨h1, by rw [h2, hx]; rfl, fun i hi => ?_⟩
    have hil : i < xs.length := by omega
    rw [hb i xs[i] hi (List.getElem?_eq_getElem hil)]
    decide
  rw [this]; rfl
theorem noBad (m : V) (xs : List V) (hm : okMode m = true) (h : ∀ x ∈ xs, isB x = true) : badAt m xs = none := by
  unfold badAt
  rw [if_neg (by rw [hm]; exact Bool.noConfusion)]
  have : xs.findIdx? (fun x => !isB x) = none := by
    rw [List.findIdx?_eq_none_iff]
    intro x hx
    rw [h x hx]; rfl
  rw [this]; rfl
theorem ok_planner (T_Planner : PlannerT K mg C fI) (F : Fun K "__init__" "Planner.__init__" s_Planner___init fI fdI) (bi : Bi mg)
    (e_Wrong : Err K mg "Wrong" "Wrong.__init__" "place" ["self", "place"] s_Wrong___init CW fW fdW)
    (GI_Wrong : FnOk P w K mg base CX0 1 fW fdW ["self", "place"] (spInit CW "place"))
    (D_is_mode : Def K mg "_is_mode" s_is_mode f_is_mode fd_is_mode ["thing"])
    (G_is_mode : FnOk P w K mg base CX0 1 f_is_mode fd_is_mode ["thing"] (spIsMode K)) :
    FnOk P w K mg base (L2.CX P w) 3 fI fdI ["self", "mode", "unknown", "folds", "beneath", "early"] (spPlnI K C CW) := by
  refine F.okX sc_Planner___init (fun vs H Q E h => ?_) (fun cdv A outer s0 H vs Q E hr h => ?_)
  · obtain ⟨p, dx, m, x1, x2, x3, x4, rfl, _⟩ := h
    rfl
  · obtain ⟨p, dx, m, x1, x2, x3, x4, rfl, hp, ht, kq, ke⟩ := h
    refine ⟨_, (pss_cons (ps_if (pt_not (pt_val (pe_call G_is_mode (hr.mono (by first | decide | omega)) rfl D_is_mode.mg D_is_mode.fn.kp D_is_mode.bd .nil pass0 (pa_cons (pv 1) pa_nil))))
    (pss_one (L2.ps_raise rfl (L2.takes_of rfl rfl rfl rfl) (pmk_oex e_Wrong.T e_Wrong.iC e_Wrong.tI GI_Wrong (hr.mono (by first | decide | omega)) e_Wrong.bd .nil pass0 rfl e_Wrong.gC (pa_cons pe_int pa_nil))))
    pss_nil)
  (pss_cons (ps_fld (pv 0) (pv 1) rfl)
  (pss_cons (ps_fld (pv 0) (pe_tup (pa_cons (pv 2) (pa_cons (pv 3) (pa_cons (pv 4) (pa_cons (pv 5) pa_nil))))) rfl)
  (pss_one (ps_for PassesOwn.leaving rfl (pi_enumT rfl bi.enumerate (pa_cons (pe_fld (pv 0) rfl) pa_nil)) (pg_tup rfl (pgs_cons (pg_name (i := 6) sc_Planner___init.nd rfl (Or.inl rfl)) (pgs_cons (pg_name (i := 7) sc_Planner___init.nd rfl (Or.inl rfl)) pgs_nil)))
    (pss_one (ps_if (pt_not (pt_val (pe_callB call_isi (by rfl) bi.isinstance bt_isinstance (pa_cons (pv 7) (pa_cons (pe_bltn (v := .ty "bool") rfl bi.bool bt_bool rfl) pa_nil)))))
      (pss_one (L2.ps_raise rfl (L2.takes_of rfl rfl rfl rfl) (pmk_oex e_Wrong.T e_Wrong.iC e_Wrong.tI GI_Wrong (hr.mono (by first | decide | omega)) e_Wrong.bd .nil pass0 rfl e_Wrong.gC (pa_cons (pe_op op_add (pv 6) pe_int) pa_nil))))
      pss_nil))))))), ?_⟩
    refine ⟨_, rfl, m, rfl, ht m List.mem_cons_self H (fun _ _ h _ => h), _, rfl, ?_⟩
    by_cases hm : okMode m = true
    · rw [hm]
      refine if_f rfl ?_
      refine ⟨_, rfl, _, rfl, p, C, dx, [], rfl, hp, T_Planner.cl, T_Planner.nm, (by show 0 < 1000; decide), ?_⟩
      refine ⟨_, rfl, _, rfl, _, rfl, _, rfl, sz4, fun t nt => ?_⟩
      have npt : p ≠ t := by
        intro z; subst z
        rw [upd_same] at nt; cases nt
      have ntH : H t = none := by rw [upd_ne npt.symm] at nt; exact nt
      refine ⟨_, rfl, p, C, dx, _, rfl, by rw [upd_ne npt]; exact upd_same, T_Planner.cl, T_Planner.nt, lt1000 (putF_le (Nat.zero_le 0)) (by decide), ?_⟩
      rw [pl_puts]
      have hpp : upd (upd (upd H p (.ins C dx (putF "_mode" m []))) t (.tup [x1, x2, x3, x4])) p (.ins C dx [("_mode", m), ("_truths", .ref t)]) p = some (.ins C dx (plF m t)) := upd_same
      have htt : upd (upd (upd H p (.ins C dx (putF "_mode" m []))) t (.tup [x1, x2, x3, x4])) p (.ins C dx [("_mode", m), ("_truths", .ref t)]) t = some (.tup [x1, x2, x3, x4]) := by
        rw [upd_ne npt.symm]; exact upd_same
      have fr : ∀ b o, H b = some o → b ≠ p → upd (upd (upd H p (.ins C dx (putF "_mode" m []))) t (.tup [x1, x2, x3, x4])) p (.ins C dx [("_mode", m), ("_truths", .ref t)]) b = some o := fun b o hb hn => by
        rw [upd_ne hn, upd_ne (ne_of_none hb ntH), upd_ne hn]; exact hb
      generalize upd (upd (upd H p (.ins C dx (putF "_mode" m []))) t (.tup [x1, x2, x3, x4])) p (.ins C dx [("_mode", m), ("_truths", .ref t)]) = H2 at hpp htt fr ⊢
      refine ⟨_, rfl, p, C, dx, _, _, rfl, hpp, T_Planner.cl, T_Planner.nt, pl_truths, t, [x1, x2, x3, x4], rfl, SqT.of htt, ?_⟩
      refine for_enumT (xs := [x1, x2, x3, x4]) (fun i σ H' => ∃ y6 y7 : Option V, σ = [some (.ref p), some m, some x1, some x2, some x3, some x4, y6, y7] ∧ Ex H2 H' ∧ ∀ j z, j < i → ([x1, x2, x3, x4] : List V)[j]? = some z → isB z = true) ?_ (fun i σ H' _ ⟨_, _, _, e, _⟩ => SqT.of (e _ _ htt)) ?_ ?_
      · exact ⟨none, none, rfl, Ex.refl H2, fun j z hj => absurd hj (Nat.not_lt_zero _)⟩
      · rintro i v T σ H3 hi ⟨y6, y7, rfl, e3, hall⟩ nT
        have e4 := e3.trans (Ex.new (o := .tup [.int (i : Nat), v]) nT)
        have tq : SqT K (upd H3 T (.tup [.int (i : Nat), v])) T [.int (i : Nat), v] := SqT.of upd_same
        generalize upd H3 T (.tup [.int (i : Nat), v]) = H4 at e4 tq ⊢
        refine ⟨T, _, rfl, tq, rfl, _, _, rfl, _, _, rfl, rfl, ?_⟩
        have vm : v ∈ [m, x1, x2, x3, x4] := List.mem_cons_of_mem _ (List.mem_of_getElem? hi)
        have fr4 : ∀ b o, H b = some o → b ≠ p → H4 b = some o := fun b o hb hn => e4 _ _ (fr b o hb hn)
        obtain ⟨t1, g1, g2, g3⟩ := ht v vm H4 fr4
        refine ⟨_, rfl, v, .ty "bool", t1, .type "bool", isB v, rfl, .ty "bool", g1, g3, _, rfl, ?_⟩
        by_cases hb : isB v = true
        · rw [hb]
          refine if_f rfl ⟨_, _, rfl, e4, fun j z hj hz => ?_⟩
          by_cases e : j = i
          · subst e; rw [hi] at hz; cases hz; exact hb
          · exact hall j z (by omega) hz
        · have hb' : isB v = false := by simpa using hb
          rw [hb']
          refine if_t rfl ?_
          have bye : tMkO CW (spInit CW "place") [] (tCons (tOp (rI0 fun i j => V.int (i + j)) (tVar 6) (tC (V.int 1))) tNil) (([some (V.ref p), some m, some x1, some x2, some x3, some x4, y6, y7].set 6 (some (V.int (i : Nat)))).set 7 (some v)) H4 (fun cls d H' => E cls d H') :=
            raise_read (v := .int ((i + 1 : Nat) : Int)) (H1 := H4) (fun Q q => ⟨_, rfl, (i : Nat), 1, rfl, rfl, q⟩) (fun d H' ex hd => ke (i + 1) (firstB m _ hm i v hi hb' fun j z hj hz => hall j z hj hz) d H' (fun b o hb hn => ex _ _ (fr4 b o hb hn)) hd)
          exact bye
      · rintro σ H3 ⟨y6, y7, rfl, e3, hall⟩
        refine kq (noBad m _ hm fun x hx => ?_) t H3 ntH (e3 _ _ hpp) (e3 _ _ htt) fun b o hb hn => e3 _ _ (fr b o hb hn)
        obtain ⟨j, hj, hjx⟩ := List.getElem_of_mem hx
        exact hall j x hj (by rw [← hjx]; exact List.getElem?_eq_getElem hj)
    · have hm' : okMode m = false := by simpa using hm
      rw [hm']
      refine if_t rfl ?_
      have bye : tMkO CW (spInit CW "place") [] (tCons (tC (V.int 0)) tNil) (L2.start ["self", "mode", "unknown", "folds", "beneath", "early", "index", "truth"] [V.ref p, m, x1, x2, x3, x4]) H (fun cls d H' => E cls d H') :=
        raise_read (v := .int 0) (H1 := H) (fun Q q => q) (fun d H' ex hd => ke 0 (by unfold badAt; rw [if_pos hm']) d H' (fun b o hb _ => ex b o hb) hd)
      exact bye
end
end K41

set_option Elab.async false
set_option linter.all false
set_option maxRecDepth 100000
set_option maxHeartbeats 4000000
namespace K41
open PySem PySem.Spec PyProof.Rows L2 Evl Gx
abbrev s_Planner_mode : Stmt := inClass (topS 8) 1
theorem sc_Planner_mode : FnScope ["self"] ["self"] (defScope s_Planner_mode) := ⟨rfl, rfl, rfl, by decide +kernel, rfl, by decide +kernel, by decide +kernel⟩
abbrev s_Planner_unknown : Stmt := inClass (topS 8) 2
theorem sc_Planner_unknown : FnScope ["self"] ["self"] (defScope s_Planner_unknown) := ⟨rfl, rfl, rfl, by decide +kernel, rfl, by decide +kernel, by decide +kernel⟩
abbrev s_Planner_folds : Stmt := inClass (topS 8) 3
theorem sc_Planner_folds : FnScope ["self"] ["self"] (defScope s_Planner_folds) := ⟨rfl, rfl, rfl, by decide +kernel, rfl, by decide +kernel, by decide +kernel⟩
abbrev s_Planner_beneath : Stmt := inClass (topS 8) 4
theorem sc_Planner_beneath : FnScope ["self"] ["self"] (defScope s_Planner_beneath) := ⟨rfl, rfl, rfl, by decide +kernel, rfl, by decide +kernel, by decide +kernel⟩
abbrev s_Planner_early : Stmt := inClass (topS 8) 5
theorem sc_Planner_early : FnScope ["self"] ["self"] (defScope s_Planner_early) := ⟨rfl, rfl, rfl, by decide +kernel, rfl, by decide +kernel, by decide +kernel⟩
structure Face where
  m : Str
  u : Bool
  f : Bool
  b : Bool
  e : Bool
deriving DecidableEq
def Face.ts (F : Face) : List V := [.bl F.u, .bl F.f, .bl F.b, .bl F.e]
def PlnAt (C : Addr) (H : Hp) (p : Addr) (F : Face) : Prop := ∃ dx t, H p = some (.ins C dx (plF (.str F.m) t)) ∧ H t = some (.tup F.ts)
theorem PlnAt.to {C p : Addr} {H H' : Hp} {F : Face} (h : PlnAt C H p F) (e : Ex H H') : PlnAt C H' p F := by
  obtain ⟨dx, t, h1, h2⟩ := h
  exact ⟨dx, t, e _ _ h1, e _ _ h2⟩
structure PrDef (K : PySem.W.Frag) (C : Addr) (nm : Str) (st : Stmt) (qual : Str) (p g : Addr) (fd : FuncData) : Prop where
  pr : PropOf K C nm p g
  fn : Fun K nm qual st g fd
  bd : Binds K fd ["self"] []
def spGet (C : Addr) (sel : Face → V) : Sp := fun vs H Q _ => ∃ (p : Addr) (F : Face), vs = [.ref p] ∧ PlnAt C H p F ∧ Q (sel F) H
section
variable {P : Program} {w : World} {K : PySem.W.Frag} {mg : Str → Option Value} {base : Heap} {C fI p f : Addr} {fdI fd : FuncData}
theorem ok_mode (T_Planner : PlannerT K mg C fI) (D : PrDef K C "mode" s_Planner_mode "Planner.mode" p f fd) : FnOk P w K mg base CX0 1 f fd ["self"] (spGet C fun F => .str F.m) := by
  refine D.fn.ok sc_Planner_mode (fun vs H Q E h => ?_) (fun cdv A outer s0 H vs Q E hr h => ?_)
  · obtain ⟨p, F, rfl, _⟩ := h
    rfl
  · obtain ⟨p, F, rfl, ⟨dx, t, hp, ht⟩, k⟩ := h
    refine ⟨_, (pss_one (ps_ret (pe_fld (pv 0) rfl))), ?_⟩
    exact ⟨_, rfl, p, C, dx, _, _, rfl, hp, T_Planner.cl, T_Planner.nm, pl_mode, k⟩
theorem ok_unknown (T_Planner : PlannerT K mg C fI) (D : PrDef K C "unknown" s_Planner_unknown "Planner.unknown" p f fd) : FnOk P w K mg base CX0 1 f fd ["self"] (spGet C fun F => .bl F.u) := by
  refine D.fn.ok sc_Planner_unknown (fun vs H Q E h => ?_) (fun cdv A outer s0 H vs Q E hr h => ?_)
  · obtain ⟨p, F, rfl, _⟩ := h
    rfl
  · obtain ⟨p, F, rfl, ⟨dx, t, hp, ht⟩, k⟩ := h
    refine ⟨_, (pss_one (ps_ret (pe_ix (ix_tupK (K := K) rfl) (pe_fld (pv 0) rfl) pe_int (fun _ _ => rfl)))), ?_⟩
    exact ⟨_, rfl, p, C, dx, _, _, rfl, hp, T_Planner.cl, T_Planner.nt, pl_truths, t, _, 0, _, rfl, rfl, SqT.of ht, rfl, k⟩
theorem ok_folds (T_Planner : PlannerT K mg C fI) (D : PrDef K C "folds" s_Planner_folds "Planner.folds" p f fd) : FnOk P w K mg base CX0 1 f fd ["self"] (spGet C fun F => .bl F.f) := by
  refine D.fn.ok sc_Planner_folds (fun vs H Q E h => ?_) (fun cdv A outer s0 H vs Q E hr h => ?_)
  · obtain ⟨p, F, rfl, _⟩ := h
    rfl
  · obtain ⟨p, F, rfl, ⟨dx, t, hp, ht⟩, k⟩ := h
    refine ⟨_, (pss_one (ps_ret (pe_ix (ix_tupK (K := K) rfl) (pe_fld (pv 0) rfl) pe_int (fun _ _ => rfl)))), ?_⟩
    exact ⟨_, rfl, p, C, dx, _, _, rfl, hp, T_Planner.cl, T_Planner.nt, pl_truths, t, _, 1, _, rfl, rfl, SqT.of ht, rfl, k⟩
theorem ok_beneath (T_Planner : PlannerT K mg C fI) (D : PrDef K C "beneath" s_Planner_beneath "Planner.beneath" p f fd) : FnOk P w K mg base CX0 1 f fd ["self"] (spGet C fun F => .bl F.b) := by
  refine D.fn.ok sc_Planner_beneath (fun vs H Q E h => ?_) (fun cdv A outer s0 H vs Q E hr h => ?_)
  · obtain ⟨p, F, rfl, _⟩ := h
    rfl
  · obtain ⟨p, F, rfl, ⟨dx, t, hp, ht⟩, k⟩ := h
    refine ⟨_, (pss_one (ps_ret (pe_ix (ix_tupK (K := K) rfl) (pe_fld (pv 0) rfl) pe_int (fun _ _ => rfl)))), ?_⟩
    exact ⟨_, rfl, p, C, dx, _, _, rfl, hp, T_Planner.cl, T_Planner.nt, pl_truths, t, _, 2, _, rfl, rfl, SqT.of ht, rfl, k⟩
theorem ok_early (T_Planner : PlannerT K mg C fI) (D : PrDef K C "early" s_Planner_early "Planner.early" p f fd) : FnOk P w K mg base CX0 1 f fd ["self"] (spGet C fun F => .bl F.e) := by
  refine D.fn.ok sc_Planner_early (fun vs H Q E h => ?_) (fun cdv A outer s0 H vs Q E hr h => ?_)
  · obtain ⟨p, F, rfl, _⟩ := h
    rfl
  · obtain ⟨p, F, rfl, ⟨dx, t, hp, ht⟩, k⟩ := h
    refine ⟨_, (pss_one (ps_ret (pe_ix (ix_tupK (K := K) rfl) (pe_fld (pv 0) rfl) pe_int (fun _ _ => rfl)))), ?_⟩
    exact ⟨_, rfl, p, C, dx, _, _, rfl, hp, T_Planner.cl, T_Planner.nt, pl_truths, t, _, 3, _, rfl, rfl, SqT.of ht, rfl, k⟩
end
end K41

set_option Elab.async false
set_option linter.all false
set_option maxRecDepth 100000
set_option maxHeartbeats 4000000
/-! Targets that take a tuple or a list. -/
namespace Gx
open PySem PySem.Spec PyProof.Rows L2 Evl
theorem pg_or {X : Cx} {tg : Expr} {g1 g2 : TG} (h1 : PG X tg g1) (h2 : PG X tg g2) : PG X tg (fun v σ H Q => g1 v σ H Q ∨ g2 v σ H Q) :=
  ⟨fun pins s σ H v u Q I r h => h.elim (fun z => h1.run pins s σ H v u Q I r z) (fun z => h2.run pins s σ H v u Q I r z)⟩
end Gx

set_option Elab.async false
set_option linter.all false
set_option maxRecDepth 100000
set_option maxHeartbeats 4000000
namespace K41
open PySem PySem.Spec PyProof.Rows L2 Evl Gx
abbrev s_planner : Stmt := topS 9
theorem sc_planner : FnScope ["mode", "truths", "unknown", "folds", "beneath", "early"] ["mode", "truths"] (defScope s_planner) := ⟨rfl, rfl, rfl, by decide +kernel, rfl, by decide +kernel, by decide +kernel⟩
abbrev s_Planner_with_mode : Stmt := inClass (topS 8) 6
theorem sc_Planner_with_mode : FnScope ["self", "mode"] ["self", "mode"] (defScope s_Planner_with_mode) := ⟨rfl, rfl, rfl, by decide +kernel, rfl, by decide +kernel, by decide +kernel⟩
abbrev s_Planner_with_truth : Stmt := inClass (topS 8) 7
theorem sc_Planner_with_truth : FnScope ["self", "word", "truth", "name", "old"] ["self", "word", "truth"] (defScope s_Planner_with_truth) := ⟨rfl, rfl, rfl, by decide +kernel, rfl, by decide +kernel, by decide +kernel⟩
abbrev kwsP : List Str := ["unknown", "folds", "beneath", "early"]
abbrev pPln : List Str := ["self", "mode", "unknown", "folds", "beneath", "early"]
/-- how C(m, unknown = .., ..) binds -/
theorem kb_planner {K : PySem.W.Frag} {f : Addr} {fd : FuncData} (F : Fun K "__init__" "Planner.__init__" s_Planner___init f fd) : KBn K fd pPln 2 kwsP (fun us ws => us ++ ws) (fun vs zs => vs ++ zs) := by
  obtain ⟨oc, od, kV, doc, pm, an, cdv, ct, osl, rfl, lk, hcd⟩ := F.ex
  refine ⟨fun s us ws X l1 l2 => ?_, fun r1 r2 => r1.append r2⟩
  match us, ws, l1, l2 with
  | [_, _], [_, _, _, _], _, _ => exact .of_eq rfl
def spMk (K : PySem.W.Frag) (C : Addr) : Sp := fun vs H Q _ => ∃ (a : Addr) (F : Face), vs = [.str F.m, .ref a] ∧ F.m ∈ modes ∧ (SqT K H a F.ts ∨ SqL K H a F.ts) ∧ ∀ p H', Ex H H' → H p = none → PlnAt C H' p F → Q (.ref p) H'
theorem okMode_of {m : Str} (h : m ∈ modes) : okMode (.str m) = true := decide_eq_true h
theorem good_face {F : Face} (h : F.m ∈ modes) : badAt (.str F.m) F.ts = none := noBad _ _ (okMode_of h) fun x hx => by
  simp only [Face.ts, List.mem_cons, List.not_mem_nil, or_false] at hx
  rcases hx with rfl | rfl | rfl | rfl <;> rfl
def WishW (C : Addr) (E : XK) (H : Hp) (j : Nat) : Prop := ∀ d H', Ex H H' → H' d = some (.xd [("place", .int (j : Nat))]) → E (.ref C) (some d) H'
def spWithMode (K : PySem.W.Frag) (C CW : Addr) : Sp := fun vs H Q E => ∃ (p : Addr) (F : Face) (m : V), vs = [.ref p, m] ∧ PlnAt C H p F ∧ F.m ∈ modes ∧ Tells K H m ∧
  (∀ s, m = .str s → s ∈ modes → ∀ q H', Ex H H' → PlnAt C H' q { F with m := s } → Q (.ref q) H') ∧ (okMode m = false → WishW CW E H 0)
section
variable {P : Program} {w : World} {K : PySem.W.Frag} {mg : Str → Option Value} {base : Heap} {C CW fI fW f_is_mode f_planner a_TRUTHS : Addr} {fdI fdW fd_is_mode fd_planner : FuncData}
theorem ok_planner_ {f : Addr} {fd : FuncData} (D : Def K mg "_planner" s_planner f fd ["mode", "truths"]) (bi : Bi mg) (T_Planner : PlannerT K mg C fI)
    (K_Planner : KBn K fdI pPln 2 kwsP (fun us ws => us ++ ws) (fun vs zs => vs ++ zs))
    (G_Planner___init : FnOk P w K mg base (L2.CX P w) 3 fI fdI pPln (spPlnI K C CW)) :
    FnOk P w K mg base CX0 5 f fd ["mode", "truths"] (spMk K C) := by
  refine D.fn.ok sc_planner (fun vs H Q E h => ?_) (fun cdv A outer s0 H vs Q E hr h => ?_)
  · obtain ⟨a, F, rfl, _⟩ := h
    rfl
  · obtain ⟨a, F, rfl, hm, ha, k⟩ := h
    refine ⟨_, (pss_cons (ps_asg (pv 1) (pg_or (pg_tup rfl (pgs_cons (pg_name (i := 2) sc_planner.nd rfl (Or.inl rfl)) (pgs_cons (pg_name (i := 3) sc_planner.nd rfl (Or.inl rfl)) (pgs_cons (pg_name (i := 4) sc_planner.nd rfl (Or.inl rfl)) (pgs_cons (pg_name (i := 5) sc_planner.nd rfl (Or.inl rfl)) pgs_nil))))) (pg_lst rfl (pgs_cons (pg_name (i := 2) sc_planner.nd rfl (Or.inl rfl)) (pgs_cons (pg_name (i := 3) sc_planner.nd rfl (Or.inl rfl)) (pgs_cons (pg_name (i := 4) sc_planner.nd rfl (Or.inl rfl)) (pgs_cons (pg_name (i := 5) sc_planner.nd rfl (Or.inl rfl)) pgs_nil)))))))
  (pss_one (ps_ret (pe_makeK T_Planner.mak G_Planner___init (hr.mono (by first | decide | omega)) rfl T_Planner.gC K_Planner passL (pa_cons (pv 0) pa_nil) (pk_cons (pv 2) (pk_cons (pv 3) (pk_cons (pv 4) (pk_cons (pv 5) pk_nil)))))))), ?_⟩
    have fin : ∀ x dx : Addr, H x = none → H dx = none → dx ≠ x → spPlnI K C CW [.ref x, .str F.m, .bl F.u, .bl F.f, .bl F.b, .bl F.e] (upd (upd H dx (.own x)) x (.ins C dx [])) (fun v H2 => v = .non ∧ Q (.ref x) H2) E0 := fun x dx nx ndx nex =>
      ⟨x, dx, .str F.m, .bl F.u, .bl F.f, .bl F.b, .bl F.e, rfl, upd_same, fun z hz H' _ => by
        simp only [List.mem_cons, List.not_mem_nil, or_false] at hz
        rcases hz with rfl | rfl | rfl | rfl | rfl
        · exact Tells.str _
        · exact Tells.bl _
        · exact Tells.bl _
        · exact Tells.bl _
        · exact Tells.bl _,
      fun _ t H' nt hp ht fr => ⟨rfl, k x H' (fun b o h => fr b o (by rw [upd_ne (ne_of_none h nx), upd_ne (ne_of_none h ndx)]; exact h) (ne_of_none h nx)) nx ⟨dx, t, hp, ht⟩⟩,
      fun j hj => by rw [show badAt (.str F.m) [.bl F.u, .bl F.f, .bl F.b, .bl F.e] = none from good_face hm] at hj; cases hj⟩
    refine ⟨_, rfl, ?_⟩
    rcases ha with ha | ha
    · refine .inl ⟨a, _, rfl, ha, rfl, _, _, rfl, _, _, rfl, _, _, rfl, _, _, rfl, rfl, ?_⟩
      exact ⟨_, rfl, _, rfl, _, rfl, _, rfl, _, rfl, rfl, rfl, fin⟩
    · refine .inr ⟨a, _, rfl, ha, rfl, _, _, rfl, _, _, rfl, _, _, rfl, _, _, rfl, rfl, ?_⟩
      exact ⟨_, rfl, _, rfl, _, rfl, _, rfl, _, rfl, rfl, rfl, fin⟩
theorem ok_with_mode {f : Addr} {fd : FuncData} (D : MDef K C "with_mode" "Planner.with_mode" s_Planner_with_mode f fd ["self", "mode"]) (bi : Bi mg) (T_Planner : PlannerT K mg C fI)
    (e_Wrong : Err K mg "Wrong" "Wrong.__init__" "place" ["self", "place"] s_Wrong___init CW fW fdW)
    (GI_Wrong : FnOk P w K mg base CX0 1 fW fdW ["self", "place"] (spInit CW "place"))
    (D_is_mode : Def K mg "_is_mode" s_is_mode f_is_mode fd_is_mode ["thing"])
    (G_is_mode : FnOk P w K mg base CX0 1 f_is_mode fd_is_mode ["thing"] (spIsMode K))
    (D_planner : Def K mg "_planner" s_planner f_planner fd_planner ["mode", "truths"])
    (G_planner : FnOk P w K mg base CX0 5 f_planner fd_planner ["mode", "truths"] (spMk K C)) :
    FnOk P w K mg base (L2.CX P w) 6 f fd ["self", "mode"] (spWithMode K C CW) := by
  refine D.fn.okX sc_Planner_with_mode (fun vs H Q E h => ?_) (fun cdv A outer s0 H vs Q E hr h => ?_)
  · obtain ⟨p, F, m, rfl, _⟩ := h
    rfl
  · obtain ⟨p, F, m, rfl, ⟨dx, t, hp, ht⟩, hm, tl, kq, ke⟩ := h
    refine ⟨_, (pss_cons (ps_if (pt_not (pt_val (pe_call G_is_mode (hr.mono (by first | decide | omega)) rfl D_is_mode.mg D_is_mode.fn.kp D_is_mode.bd .nil pass0 (pa_cons (pv 1) pa_nil))))
    (pss_one (L2.ps_raise rfl (L2.takes_of rfl rfl rfl rfl) (pmk_oex e_Wrong.T e_Wrong.iC e_Wrong.tI GI_Wrong (hr.mono (by first | decide | omega)) e_Wrong.bd .nil pass0 rfl e_Wrong.gC (pa_cons pe_int pa_nil))))
    pss_nil)
  (pss_one (ps_ret (pe_call G_planner (hr.mono (by first | decide | omega)) rfl D_planner.mg D_planner.fn.kp D_planner.bd .nil pass0 (pa_cons (pv 1) (pa_cons (pe_fld (pv 0) rfl) pa_nil)))))), ?_⟩
    refine ⟨_, rfl, m, rfl, tl, _, rfl, ?_⟩
    by_cases ho : okMode m = true
    · rw [ho]
      refine if_f rfl ?_
      cases m with
      | str s =>
        refine ⟨_, rfl, _, rfl, p, C, dx, _, _, rfl, hp, T_Planner.cl, T_Planner.nt, pl_truths, t, { F with m := s }, rfl, of_decide_eq_true ho, .inl (SqT.of ht), fun q H' e _ hq => kq s rfl (of_decide_eq_true ho) q H' e hq⟩
      | _ => exact absurd ho Bool.noConfusion
    · have ho' : okMode m = false := by simpa using ho
      rw [ho']
      refine if_t rfl ?_
      have bye : tMkO CW (spInit CW "place") [] (tCons (tC (V.int 0)) tNil) (L2.start ["self", "mode"] [V.ref p, m]) H (fun cls d H' => E cls d H') :=
        raise_read (v := .int 0) (H1 := H) (fun Q q => q) (fun d H' ex hd => ke ho' d H' ex hd)
      exact bye
end
end K41

set_option Elab.async false
set_option linter.all false
set_option maxRecDepth 100000
set_option maxHeartbeats 4000000
namespace K41
open PySem PySem.Spec PyProof.Rows L2 Evl Gx RZ
abbrev s_Planner_is_within : Stmt := inClass (topS 8) 8
theorem sc_Planner_is_within : FnScope ["self", "other", "mine", "theirs"] ["self", "other"] (defScope s_Planner_is_within) := ⟨rfl, rfl, rfl, by decide +kernel, rfl, by decide +kernel, by decide +kernel⟩
theorem lc_zipT {K : PySem.W.Frag} {a b : Addr} {xs ys : List V} {g : TG} {tt : TT} {te : TE} {vs : List Nat} {σ : L2.St} {H1 : Hp} {D : Addr} {Qd : Hp → Prop} (hl : xs.length = ys.length) (Pv : Nat → Hp → Prop) (h0 : Pv 0 (upd H1 D (.lst []))) (hq : ∀ i H, Pv i H → SqT K H a xs ∧ SqT K H b ys)
    (hs : ∀ i x y T H, xs[i]? = some x → ys[i]? = some y → Pv i H → H T = none → g (.ref T) (wipe σ vs) (upd H T (.tup [x, y])) fun σ2 H2 => wipe σ2 vs = wipe σ vs ∧ tt σ2 H2 fun c H3 =>
      if c = true then te σ2 H3 fun z H4 => ∃ acc, H4 D = some (.lst acc) ∧ acc.length < sizeLine ∧ Pv (i + 1) (upd H4 D (.lst (acc ++ [z]))) else Pv (i + 1) H3) (hd : ∀ H, Pv xs.length H → Qd H) :
    ∃ W : Nat → Nat → Hp → Prop, (∃ m, W 0 m (upd H1 D (.lst []))) ∧ ∀ i m H, W i m H →
      ((ItzT K a b).stop i H ∧ Qd H) ∨ ((ItzT K a b).go i H ∧ ∃ Nx : Hp → Prop, (∀ H', Nx H' → ∃ m', m' < m ∧ W (i + 1) m' H') ∧ ∀ v H', (ItzT K a b).yld i H v H' → g v (wipe σ vs) H' fun σ2 H2 => wipe σ2 vs = wipe σ vs ∧ tt σ2 H2 fun c H3 =>
        if c = true then te σ2 H3 fun z H4 => ∃ acc, H4 D = some (.lst acc) ∧ acc.length < sizeLine ∧ Nx (upd H4 D (.lst (acc ++ [z]))) else Nx H3) := by
  refine ⟨fun i m H => m = xs.length - i ∧ i ≤ xs.length ∧ Pv i H, ⟨xs.length, by simp, Nat.zero_le _, h0⟩, ?_⟩
  rintro i m H ⟨rfl, hi, p⟩
  obtain ⟨qa, qb⟩ := hq i H p
  by_cases hlt : i < xs.length
  · have ha : xs[i]? = some xs[i] := List.getElem?_eq_getElem hlt
    have hb : ys[i]? = some (ys[i]'(by omega)) := List.getElem?_eq_getElem (by omega)
    refine .inr ⟨⟨xs, ys, _, _, qa, qb, ha, hb⟩, Pv (i + 1), fun H' p' => ⟨_, by omega, rfl, hlt, p'⟩, ?_⟩
    rintro v H' ⟨T, x, y, rfl, nT, rfl, hx, hy⟩
    exact hs i x y T H (hx xs qa) (hy ys qb) p nT
  · have e : i = xs.length := by omega
    subst e
    exact .inl ⟨⟨xs, ys, qa, qb, .inl (Nat.le_refl _)⟩, hd H p⟩
def truthsL : List Str := ["unknown", "folds", "beneath", "early"]
def okTruth : V → Bool
  | .str s => decide (s ∈ truthsL)
  | _ => false
def Face.put (F : Face) (s : Str) (c : Bool) : Face := { m := F.m, u := if ("unknown" : Str) = s then c else F.u, f := if ("folds" : Str) = s then c else F.f, b := if ("beneath" : Str) = s then c else F.b, e := if ("early" : Str) = s then c else F.e }
def spWithTruth (K : PySem.W.Frag) (C CW : Addr) : Sp := fun vs H Q E => ∃ (p : Addr) (F : Face) (x y : V), vs = [.ref p, x, y] ∧ PlnAt C H p F ∧ F.m ∈ modes ∧ Tells K H x ∧ Tells K H y ∧
  (∀ s c, x = .str s → s ∈ truthsL → y = .bl c → ∀ q H', Ex H H' → PlnAt C H' q (F.put s c) → Q (.ref q) H') ∧ (okTruth x = false → WishW CW E H 0) ∧ (okTruth x = true → isB y = false → WishW CW E H 1)
def within (F G : Face) : Bool := decide (F.m = G.m ∨ F.m = "text") && !(G.u && !F.u) && ((G.f || !F.f) && ((G.b || !F.b) && (G.e || !F.e)))
def spWithin (C : Addr) : Sp := fun vs H Q _ => ∃ (p q : Addr) (F G : Face), vs = [.ref p, .ref q] ∧ PlnAt C H p F ∧ PlnAt C H q G ∧ ∀ H', Ex H H' → Q (.bl (within F G)) H'
section
variable {P : Program} {w : World} {K : PySem.W.Frag} {mg : Str → Option Value} {base : Heap} {C CW fI fW f_planner a_TRUTHS : Addr} {fdI fdW fd_planner : FuncData}
theorem ok_with_truth {f : Addr} {fd : FuncData} (D : MDef K C "with_truth" "Planner.with_truth" s_Planner_with_truth f fd ["self", "word", "truth"]) (bi : Bi mg) (T_Planner : PlannerT K mg C fI)
    (e_Wrong : Err K mg "Wrong" "Wrong.__init__" "place" ["self", "place"] s_Wrong___init CW fW fdW)
    (GI_Wrong : FnOk P w K mg base CX0 1 fW fdW ["self", "place"] (spInit CW "place"))
    (C_TRUTHS : ConT K mg "TRUTHS" a_TRUTHS (truthsL.map V.str))
    (D_planner : Def K mg "_planner" s_planner f_planner fd_planner ["mode", "truths"])
    (G_planner : FnOk P w K mg base CX0 5 f_planner fd_planner ["mode", "truths"] (spMk K C)) :
    FnOk P w K mg base (L2.CX P w) 6 f fd ["self", "word", "truth"] (spWithTruth K C CW) := by
  refine D.fn.okX sc_Planner_with_truth (fun vs H Q E h => ?_) (fun cdv A outer s0 H vs Q E hr h => ?_)
  · obtain ⟨p, F, x, y, rfl, _⟩ := h
    rfl
  · obtain ⟨p, F, x, y, rfl, ⟨dx, t, hp, ht⟩, hm, ⟨t1, a1, a2, a3⟩, ⟨t2, b1, b2, b3⟩, kq, ke0, ke1⟩ := h
    refine ⟨_, (pss_cons (ps_if (L2.PW.pt (pw_or (pt_not (pt_val (pe_callB call_isi (by rfl) bi.isinstance bt_isinstance (pa_cons (pv 1) (pa_cons (pe_bltn (v := .ty "str") rfl bi.str bt_str rfl) pa_nil))))) (pw_or1 (pt_cmpR op_notIn_seq (pv 1) (pe_glob (v := .ref a_TRUTHS) rfl C_TRUTHS.mg rfl) (by rfl)))))
    (pss_one (L2.ps_raise rfl (L2.takes_of rfl rfl rfl rfl) (pmk_oex e_Wrong.T e_Wrong.iC e_Wrong.tI GI_Wrong (hr.mono (by first | decide | omega)) e_Wrong.bd .nil pass0 rfl e_Wrong.gC (pa_cons pe_int pa_nil))))
    pss_nil)
  (pss_cons (ps_if (pt_not (pt_val (pe_callB call_isi (by rfl) bi.isinstance bt_isinstance (pa_cons (pv 2) (pa_cons (pe_bltn (v := .ty "bool") rfl bi.bool bt_bool rfl) pa_nil)))))
    (pss_one (L2.ps_raise rfl (L2.takes_of rfl rfl rfl rfl) (pmk_oex e_Wrong.T e_Wrong.iC e_Wrong.tI GI_Wrong (hr.mono (by first | decide | omega)) e_Wrong.bd .nil pass0 rfl e_Wrong.gC (pa_cons pe_int pa_nil))))
    pss_nil)
  (pss_one (ps_ret (pe_call G_planner (hr.mono (by first | decide | omega)) rfl D_planner.mg D_planner.fn.kp D_planner.bd .nil pass0 (pa_cons (pe_fld (pv 0) rfl) (pa_cons (pe_lc (own := [("name", 3), ("old", 4)]) (g := gTup K 2 (gCons (gName 3) (gCons (gName 4) gNil))) rfl sc_Planner_with_truth.nd (pi_zipA rfl bi.zip (pa_cons (pe_glob (v := .ref a_TRUTHS) rfl C_TRUTHS.mg rfl) (pa_cons (pe_fld (pv 0) rfl) pa_nil))) (blkOk_by (N := ["self", "word", "truth", "name", "old"]) (sc := defScope s_Planner_with_truth) (by decide +kernel)) (fun _ _ _ _ _ => (pg_tup rfl (pgs_cons (pg_name (i := 3) sc_Planner_with_truth.nd rfl (Or.inl rfl)) (pgs_cons (pg_name (i := 4) sc_Planner_with_truth.nd rfl (Or.inl rfl)) pgs_nil)))) (fun _ _ _ _ _ => pts_nil) (fun _ _ _ _ _ => (pe_ifExp (pt_cmpR op_eq (pv 3) (pv 1) (nomark _)) (pv 2) (pv 4)))) pa_nil))))))), ?_⟩
    refine ⟨_, rfl, x, .ty "str", t1, .type "str", isS x, rfl, .ty "str", a1, a2, _, rfl, ?_⟩
    have bye0 : okTruth x = false → tMkO CW (spInit CW "place") [] (tCons (tC (V.int 0)) tNil) (L2.start ["self", "word", "truth", "name", "old"] [V.ref p, x, y]) H (fun cls d H' => E cls d H') := fun ho =>
      raise_read (v := .int 0) (H1 := H) (fun Q q => q) (fun d H' ex hd => ke0 ho d H' ex hd)
    have bye1 : okTruth x = true → isB y = false → tMkO CW (spInit CW "place") [] (tCons (tC (V.int 1)) tNil) (L2.start ["self", "word", "truth", "name", "old"] [V.ref p, x, y]) H (fun cls d H' => E cls d H') := fun ho hb =>
      raise_read (v := .int 1) (H1 := H) (fun Q q => q) (fun d H' ex hd => ke1 ho hb d H' ex hd)
    cases x with
    | str s =>
      refine if_f rfl ⟨_, rfl, a_TRUTHS, truthsL.map V.str, rfl, .inr (C_TRUTHS.at_ H), rfl, flat_strs truthsL, _, rfl, ?_⟩
      rw [if_pos rfl, inV_strs]
      by_cases hs : s ∈ truthsL
      · refine if_f (by rw [decide_eq_true hs]; rfl) ?_
        have ho : okTruth (.str s) = true := decide_eq_true hs
        refine ⟨_, rfl, y, .ty "bool", t2, .type "bool", isB y, rfl, .ty "bool", b1, b3, _, rfl, ?_⟩
        by_cases hb : isB y = true
        · obtain ⟨c, rfl⟩ : ∃ c, y = .bl c := by
            cases y with
            | bl c => exact ⟨c, rfl⟩
            | _ => exact absurd hb Bool.noConfusion
          refine if_f rfl ?_
          refine ⟨_, rfl, p, C, dx, _, _, rfl, hp, T_Planner.cl, T_Planner.nm, pl_mode, _, rfl, p, C, dx, _, _, rfl, hp, T_Planner.cl, T_Planner.nt, pl_truths, a_TRUTHS, t, truthsL.map V.str, F.ts, rfl, .inr ⟨C_TRUTHS.at_ H, SqT.of ht, fun D nD => ?_⟩⟩
          refine lc_zipT (xs := truthsL.map V.str) (ys := F.ts) rfl (fun j H' => Ex H H' ∧ H' D = some (.lst ((F.put s c).ts.take j))) ?_ (fun j H' z => ⟨C_TRUTHS.at_ H', SqT.of (z.1 _ _ ht)⟩) ?_ ?_
          · exact ⟨Ex.new nD, upd_same⟩
          · rintro j n o T H' hn ho2 ⟨e2, hD⟩ nT
            have e3 := e2.trans (Ex.new (o := .tup [n, o]) nT)
            have hT : SqT K (upd H' T (.tup [n, o])) T [n, o] := SqT.of upd_same
            have hD3 := (Ex.new (o := .tup [n, o]) nT) _ _ hD
            generalize upd H' T (.tup [n, o]) = H3 at e3 hT hD3 ⊢
            have hD4 : ∀ z, (F.put s c).ts[j]? = some z → Ex H (upd H3 D (.lst ((F.put s c).ts.take j ++ [z]))) ∧ upd H3 D (.lst ((F.put s c).ts.take j ++ [z])) D = some (.lst ((F.put s c).ts.take (j + 1))) := fun z hz =>
              ⟨e3.mut nD, by rw [upd_same, takeS hz]⟩
            have jl : j < 4 := (List.getElem?_eq_some_iff.mp ho2).1
            have sz : ((F.put s c).ts.take j).length < sizeLine := Nat.lt_of_le_of_lt (show _ ≤ 4 by rw [List.length_take]; omega) (by decide)
            obtain ⟨nm, rfl, hval⟩ : ∃ nm, n = V.str nm ∧ (F.put s c).ts[j]? = some (if nm = s then .bl c else o) := by
              match j, jl, hn, ho2 with
              | 0, _, h1, h2 => cases h1; cases h2; refine ⟨"unknown", rfl, ?_⟩; show some (V.bl _) = _; congr 1; show V.bl (if _ then _ else _) = _; split <;> rfl
              | 1, _, h1, h2 => cases h1; cases h2; refine ⟨"folds", rfl, ?_⟩; show some (V.bl _) = _; congr 1; show V.bl (if _ then _ else _) = _; split <;> rfl
              | 2, _, h1, h2 => cases h1; cases h2; refine ⟨"beneath", rfl, ?_⟩; show some (V.bl _) = _; congr 1; show V.bl (if _ then _ else _) = _; split <;> rfl
              | 3, _, h1, h2 => cases h1; cases h2; refine ⟨"early", rfl, ?_⟩; show some (V.bl _) = _; congr 1; show V.bl (if _ then _ else _) = _; split <;> rfl
            refine ⟨T, _, rfl, hT, rfl, _, _, rfl, _, _, rfl, rfl, rfl, _, rfl, _, rfl, rfl, _, rfl, ?_⟩
            by_cases en : nm = s
            · rw [if_pos en] at hval
              exact if_t (decide_eq_true (congrArg V.str en)) ⟨_, rfl, _, hD3, sz, hD4 _ hval⟩
            · rw [if_neg en] at hval
              exact if_f (decide_eq_false fun z => en (V.str.inj z)) ⟨_, rfl, _, hD3, sz, hD4 _ hval⟩
          · rintro H2 ⟨e2, hD⟩
            refine ⟨D, F.put s c, rfl, hm, .inr (SqL.of hD), fun q H' e _ hq => kq s c rfl hs rfl q H' (e2.trans e) hq⟩
        · have hb' : isB y = false := by simpa using hb
          rw [hb']
          exact if_t rfl (bye1 ho hb')
      · exact if_t (by rw [decide_eq_false hs]; rfl) (bye0 (decide_eq_false hs))
    | _ => exact if_t rfl (bye0 rfl)
end
end K41

set_option Elab.async false
set_option linter.all false
set_option maxRecDepth 100000
set_option maxHeartbeats 4000000
/-! Comprehensions of two clauses, over lists and tuples. -/
namespace Gx
open PySem PySem.Spec PyProof.Rows L2 Evl
/-- the second clause's loop, from which Nx is reached -/
abbrev Inner (g1 : TG) (tt1 : TT) (te : TE) (vs1 : List Nat) (D : Addr) (σ2 : L2.St) (Nx : Hp → Prop) (J1 : It) (H4 : Hp) : Prop :=
  ∃ W1 : Nat → Nat → Hp → Prop, (∃ m, W1 0 m H4) ∧ ∀ j k H, W1 j k H →
    (J1.stop j H ∧ Nx H) ∨ (J1.go j H ∧ ∃ Nx1 : Hp → Prop, (∀ H', Nx1 H' → ∃ k', k' < k ∧ W1 (j + 1) k' H') ∧ ∀ x H', J1.yld j H x H' → g1 x (wipe σ2 vs1) H' fun σ3 H5 => wipe σ3 vs1 = wipe σ2 vs1 ∧ tt1 σ3 H5 fun b H6 =>
      if b = true then te σ3 H6 fun y H7 => ∃ acc, H7 D = some (.lst acc) ∧ acc.length < sizeLine ∧ Nx1 (upd H7 D (.lst (acc ++ [y]))) else Nx1 H6)
section
variable {K : PySem.W.Frag} {a D : Addr} {xs : List V} {g1 : TG} {tt1 : TT} {te : TE} {vs1 : List Nat} {σ2 : L2.St} {Nx : Hp → Prop} {H4 : Hp}
theorem inner_tup (Pw : Nat → Hp → Prop) (h0 : Pw 0 H4) (hl : ∀ j H, j ≤ xs.length → Pw j H → SqT K H a xs)
    (hs : ∀ j x H, xs[j]? = some x → Pw j H → g1 x (wipe σ2 vs1) H fun σ3 H5 => wipe σ3 vs1 = wipe σ2 vs1 ∧ tt1 σ3 H5 fun b H6 =>
      if b = true then te σ3 H6 fun y H7 => ∃ acc, H7 D = some (.lst acc) ∧ acc.length < sizeLine ∧ Pw (j + 1) (upd H7 D (.lst (acc ++ [y]))) else Pw (j + 1) H6)
    (hd : ∀ H, Pw xs.length H → Nx H) : Inner g1 tt1 te vs1 D σ2 Nx (Itt K a) H4 := by
  refine ⟨fun j k H => k = xs.length - j ∧ j ≤ xs.length ∧ Pw j H, ⟨_, rfl, Nat.zero_le _, h0⟩, ?_⟩
  rintro j k H ⟨ek, hj, p⟩
  have q := hl j H hj p
  rcases Nat.lt_or_ge j xs.length with hlt | hge
  · refine .inr ⟨⟨xs, _, q, List.getElem?_eq_getElem hlt⟩, Pw (j + 1), fun H' p' => ⟨_, by rw [ek]; exact Nat.sub_lt_sub_left hlt (Nat.lt_succ_self j), rfl, hlt, p'⟩, fun x H' y => ?_⟩
    have e := y.1
    have y := y.2 xs q
    rw [e]
    exact hs j x _ y p
  · have e : j = xs.length := Nat.le_antisymm hj hge
    subst e
    exact .inl ⟨⟨xs, q, Nat.le_refl _⟩, hd H p⟩
theorem inner_list (Pw : Nat → Hp → Prop) (h0 : Pw 0 H4) (hl : ∀ j H, j ≤ xs.length → Pw j H → SqL K H a xs)
    (hs : ∀ j x H, xs[j]? = some x → Pw j H → g1 x (wipe σ2 vs1) H fun σ3 H5 => wipe σ3 vs1 = wipe σ2 vs1 ∧ tt1 σ3 H5 fun b H6 =>
      if b = true then te σ3 H6 fun y H7 => ∃ acc, H7 D = some (.lst acc) ∧ acc.length < sizeLine ∧ Pw (j + 1) (upd H7 D (.lst (acc ++ [y]))) else Pw (j + 1) H6)
    (hd : ∀ H, Pw xs.length H → Nx H) : Inner g1 tt1 te vs1 D σ2 Nx (Itl K a) H4 := by
  refine ⟨fun j k H => k = xs.length - j ∧ j ≤ xs.length ∧ Pw j H, ⟨_, rfl, Nat.zero_le _, h0⟩, ?_⟩
  rintro j k H ⟨ek, hj, p⟩
  have q := hl j H hj p
  rcases Nat.lt_or_ge j xs.length with hlt | hge
  · refine .inr ⟨⟨xs, _, q, List.getElem?_eq_getElem hlt⟩, Pw (j + 1), fun H' p' => ⟨_, by rw [ek]; exact Nat.sub_lt_sub_left hlt (Nat.lt_succ_self j), rfl, hlt, p'⟩, fun x H' y => ?_⟩
    have e := y.1
    have y := y.2 xs q
    rw [e]
    exact hs j x _ y p
  · have e : j = xs.length := Nat.le_antisymm hj hge
    subst e
    exact .inl ⟨⟨xs, q, Nat.le_refl _⟩, hd H p⟩
end
section
variable {K : PySem.W.Frag} {a D : Addr} {xs : List V} {g g1 : TG} {tt tt1 : TT} {wi1 : TI} {te : TE} {vs vs1 : List Nat} {σ : L2.St} {H1 : Hp} {Qd : Hp → Prop}
/-- what the first clause's turn comes to -/
abbrev Turn2 (g : TG) (tt : TT) (wi1 : TI) (g1 : TG) (tt1 : TT) (te : TE) (vs vs1 : List Nat) (σ : L2.St) (D : Addr) (Nx : Hp → Prop) (x : V) (H : Hp) : Prop :=
  g x (wipe σ vs) H fun σ2 H2 => wipe σ2 vs = wipe σ vs ∧ tt σ2 H2 fun b H3 => if b = true then wi1 σ2 H3 (Inner g1 tt1 te vs1 D σ2 Nx) else Nx H3
theorem lc2_list (Pv : Nat → Hp → Prop) (h0 : Pv 0 (upd H1 D (.lst []))) (hl : ∀ i H, i ≤ xs.length → Pv i H → SqL K H a xs)
    (hs : ∀ i x H, xs[i]? = some x → Pv i H → Turn2 g tt wi1 g1 tt1 te vs vs1 σ D (Pv (i + 1)) x H) (hd : ∀ H, Pv xs.length H → Qd H) :
    ∃ W : Nat → Nat → Hp → Prop, (∃ m, W 0 m (upd H1 D (.lst []))) ∧ ∀ i m H, W i m H →
      ((Itl K a).stop i H ∧ Qd H) ∨ ((Itl K a).go i H ∧ ∃ Nx : Hp → Prop, (∀ H', Nx H' → ∃ m', m' < m ∧ W (i + 1) m' H') ∧ ∀ x H', (Itl K a).yld i H x H' → Turn2 g tt wi1 g1 tt1 te vs vs1 σ D Nx x H') := by
  refine ⟨fun i m H => m = xs.length - i ∧ i ≤ xs.length ∧ Pv i H, ⟨_, rfl, Nat.zero_le _, h0⟩, ?_⟩
  rintro i m H ⟨em, hi, p⟩
  have q := hl i H hi p
  rcases Nat.lt_or_ge i xs.length with hlt | hge
  · refine .inr ⟨⟨xs, _, q, List.getElem?_eq_getElem hlt⟩, Pv (i + 1), fun H' p' => ⟨_, by rw [em]; exact Nat.sub_lt_sub_left hlt (Nat.lt_succ_self i), rfl, hlt, p'⟩, fun x H' y => ?_⟩
    have e := y.1
    have y := y.2 xs q
    rw [e]
    exact hs i x _ y p
  · have e : i = xs.length := Nat.le_antisymm hi hge
    subst e
    exact .inl ⟨⟨xs, q, Nat.le_refl _⟩, hd H p⟩
theorem lc2_tup (Pv : Nat → Hp → Prop) (h0 : Pv 0 (upd H1 D (.lst []))) (hl : ∀ i H, i ≤ xs.length → Pv i H → SqT K H a xs)
    (hs : ∀ i x H, xs[i]? = some x → Pv i H → Turn2 g tt wi1 g1 tt1 te vs vs1 σ D (Pv (i + 1)) x H) (hd : ∀ H, Pv xs.length H → Qd H) :
    ∃ W : Nat → Nat → Hp → Prop, (∃ m, W 0 m (upd H1 D (.lst []))) ∧ ∀ i m H, W i m H →
      ((Itt K a).stop i H ∧ Qd H) ∨ ((Itt K a).go i H ∧ ∃ Nx : Hp → Prop, (∀ H', Nx H' → ∃ m', m' < m ∧ W (i + 1) m' H') ∧ ∀ x H', (Itt K a).yld i H x H' → Turn2 g tt wi1 g1 tt1 te vs vs1 σ D Nx x H') := by
  refine ⟨fun i m H => m = xs.length - i ∧ i ≤ xs.length ∧ Pv i H, ⟨_, rfl, Nat.zero_le _, h0⟩, ?_⟩
  rintro i m H ⟨em, hi, p⟩
  have q := hl i H hi p
  rcases Nat.lt_or_ge i xs.length with hlt | hge
  · refine .inr ⟨⟨xs, _, q, List.getElem?_eq_getElem hlt⟩, Pv (i + 1), fun H' p' => ⟨_, by rw [em]; exact Nat.sub_lt_sub_left hlt (Nat.lt_succ_self i), rfl, hlt, p'⟩, fun x H' y => ?_⟩
    have e := y.1
    have y := y.2 xs q
    rw [e]
    exact hs i x _ y p
  · have e : i = xs.length := Nat.le_antisymm hi hge
    subst e
    exact .inl ⟨⟨xs, q, Nat.le_refl _⟩, hd H p⟩
end
/-- a tuple, one item longer -/
theorem cat_one {K : PySem.W.Frag} {H : Hp} {ad t : Addr} {xs : List V} {y : V} {Q : VK} (h1 : H ad = some (.tup xs)) (h2 : H t = some (.tup [y]))
    (sz : xs.length ≤ 100000) (k : ∀ p H', Ex H H' → H' p = some (.tup (xs ++ [y])) → Q (.ref p) H') : rCatA K (.ref ad) (.ref t) H Q := by
  refine ⟨ad, t, _, _, rfl, rfl, SqT.of h1, SqT.of h2, Nat.le_trans (Nat.add_le_add_right sz 1) (by decide), fun h => ?_, fun _ h => (by cases h), fun _ _ p np => k p _ (Ex.new np) upd_same⟩
  subst h
  exact k t H (Ex.refl H) h2
/-- the rules where the context is another than the written part's -/
theorem pi_tupK {X : Cx} {K : PySem.W.Frag} {tg e : Expr} {te : TE} (h : X.K = K) (he : PE X e te) : PI X tg e (iTup K te) := by rw [← h]; exact pi_tup he
theorem pi_listK {X : Cx} {K : PySem.W.Frag} {tg e : Expr} {te : TE} (h : X.K = K) (he : PE X e te) : PI X tg e (iList K te) := by rw [← h]; exact pi_list he
theorem op_catAK {X : Cx} {K : PySem.W.Frag} (h : X.K = K) : OpR X (binaryOp .Add) (rCatA K) := by rw [← h]; exact op_catA
end Gx

set_option Elab.async false
set_option linter.all false
set_option maxRecDepth 100000
set_option maxHeartbeats 4000000
namespace K41
open PySem PySem.Spec PyProof.Rows L2 Evl Gx RZ
abbrev s_all_planners : Stmt := topS 10
theorem sc_all_planners : FnScope ["lists", "_", "truths", "truth", "mode"] [] (defScope s_all_planners) := ⟨rfl, rfl, rfl, by decide +kernel, rfl, by decide +kernel, by decide +kernel⟩
def blists : Nat → List (List Bool)
  | 0 => [[]]
  | n + 1 => (blists n).flatMap fun l => [l ++ [false], l ++ [true]]
def faceOf (m : Str) : List Bool → Face
  | [a, b, c, d] => ⟨m, a, b, c, d⟩
  | _ => ⟨m, false, false, false, false⟩
def allFaces : List Face := modes.flatMap fun m => (blists 4).map (faceOf m)
def spAllP (K : PySem.W.Frag) (C : Addr) : Sp := fun vs H Q _ => vs = [] ∧ ∀ (l : Addr) (ps : List Addr) (H' : Hp), Ex H H' → H l = none → H' l = some (.lst (ps.map V.ref)) → Paired (PlnAt C H') ps allFaces → Q (.ref l) H'
def two (l : List Bool) : List (List Bool) := [l ++ [false], l ++ [true]]
theorem two_len : ∀ l : List (List Bool), (l.flatMap two).length = 2 * l.length
  | [] => rfl
  | a :: l => by rw [List.flatMap_cons, List.length_append, two_len l, List.length_cons]; show 2 + _ = _; omega
theorem blists_len : ∀ i, i ≤ 4 → (blists i).length ≤ 16 := by decide
def TupAt (H : Hp) (a : Addr) (bs : List Bool) : Prop := H a = some (.tup (bs.map V.bl))
theorem tupsI {H H' : Hp} {as : List Addr} {bl : List (List Bool)} (e : ExI H H') (h : Paired (TupAt H) as bl) : Paired (TupAt H') as bl := L2.Paired.mapP h fun a bs q => e _ _ q rfl
theorem none_back {H H' : Hp} {a : Addr} (e : Ex H H') (n : H' a = none) : H a = none := by
  cases h : H a with
  | none => rfl
  | some o => rw [e _ _ h] at n; cases n
theorem PlnAt.put {C D p : Addr} {H : Hp} {xs ys : List V} {F : Face} (h : PlnAt C H p F) (hD : H D = some (.lst xs)) : PlnAt C (upd H D (.lst ys)) p F := by
  obtain ⟨dx, t, h1, h2⟩ := h
  exact ⟨dx, t, by rw [upd_ne (fun e => by rw [e, hD] at h1; cases h1)]; exact h1, by rw [upd_ne (fun e => by rw [e, hD] at h2; cases h2)]; exact h2⟩
theorem flatMap_take {α β : Type} {f : α → List β} {l : List α} {i : Nat} {x : α} (h : l[i]? = some x) : (l.take (i + 1)).flatMap f = (l.take i).flatMap f ++ f x := by
  rw [takeS h, List.flatMap_append]; simp
section
variable {P : Program} {w : World} {K : PySem.W.Frag} {mg : Str → Option Value} {base : Heap} {C CW fI fW f_planner a_TRUTHS a_MODES : Addr} {fdI fdW fd_planner : FuncData}
  {p_Planner_mode f_Planner_mode p_Planner_unknown f_Planner_unknown : Addr} {fd_Planner_mode fd_Planner_unknown : FuncData}
theorem ok_is_within {f : Addr} {fd : FuncData} (D : MDef K C "is_within" "Planner.is_within" s_Planner_is_within f fd ["self", "other"]) (bi : Bi mg) (T_Planner : PlannerT K mg C fI)
    (D_Planner_mode : PrDef K C "mode" s_Planner_mode "Planner.mode" p_Planner_mode f_Planner_mode fd_Planner_mode)
    (G_Planner_mode : FnOk P w K mg base CX0 1 f_Planner_mode fd_Planner_mode ["self"] (spGet C fun F => .str F.m))
    (D_Planner_unknown : PrDef K C "unknown" s_Planner_unknown "Planner.unknown" p_Planner_unknown f_Planner_unknown fd_Planner_unknown)
    (G_Planner_unknown : FnOk P w K mg base CX0 1 f_Planner_unknown fd_Planner_unknown ["self"] (spGet C fun F => .bl F.u)) :
    FnOk P w K mg base CX0 4 f fd ["self", "other"] (spWithin C) := by
  refine D.fn.ok sc_Planner_is_within (fun vs H Q E h => ?_) (fun cdv A outer s0 H vs Q E hr h => ?_)
  · obtain ⟨p, q, F, G, rfl, _⟩ := h
    rfl
  · obtain ⟨p, q, F, G, rfl, ⟨dx, t, hp, ht⟩, ⟨dy, u, hq, hu⟩, k⟩ := h
    refine ⟨_, (pss_cons (ps_if (L2.PW.pt (pw_or (pt_cmpR op_notIn_seq (pe_fld (pv 0) rfl) (pe_tup (pa_cons (pe_prop (pv 1) T_Planner.cl D_Planner_mode.pr G_Planner_mode (hr.mono (by first | decide | omega)) D_Planner_mode.bd .nil pass0 rfl) (pa_cons pe_str pa_nil))) (by rfl)) (pw_or1 (L2.PW.pt (pw_and (pt_val (pe_prop (pv 1) T_Planner.cl D_Planner_unknown.pr G_Planner_unknown (hr.mono (by first | decide | omega)) D_Planner_unknown.bd .nil pass0 rfl)) (pw_and1 (pt_not (pt_val (pe_prop (pv 0) T_Planner.cl D_Planner_unknown.pr G_Planner_unknown (hr.mono (by first | decide | omega)) D_Planner_unknown.bd .nil pass0 rfl)))))))))
    (pss_one (ps_ret pe_bl))
    pss_nil)
  (pss_one (ps_ret (pe_callB (cr_all rfl) (by rfl) bi.all bt_all (pa_cons (pe_lc (own := [("mine", 2), ("theirs", 3)]) (g := gTup K 2 (gCons (gName 2) (gCons (gName 3) gNil))) rfl sc_Planner_is_within.nd (pi_zipA rfl bi.zip (pa_cons (pe_slice sl_tupA (pe_fld (pv 0) rfl) (po_some pe_int) po_none) (pa_cons (pe_slice sl_tupA (pe_fld (pv 1) rfl) (po_some pe_int) po_none) pa_nil))) (blkOk_by (N := ["self", "other", "mine", "theirs"]) (sc := defScope s_Planner_is_within) (by decide +kernel)) (fun _ _ _ _ _ => (pg_tup rfl (pgs_cons (pg_name (i := 2) sc_Planner_is_within.nd rfl (Or.inl rfl)) (pgs_cons (pg_name (i := 3) sc_Planner_is_within.nd rfl (Or.inl rfl)) pgs_nil)))) (fun _ _ _ _ _ => pts_nil) (fun _ _ _ _ _ => (pe_or (pv 3) (pe_one (pe_not (pv 2)))))) pa_nil))))), ?_⟩
    have e1 : inV (.str F.m) [.str G.m, .str "text"] = decide (F.m = G.m ∨ F.m = "text") := by
      rw [show [V.str G.m, .str "text"] = ([G.m, ("text" : Str)]).map V.str from rfl, inV_strs]
      simp
    refine ⟨_, rfl, p, C, dx, _, _, rfl, hp, T_Planner.cl, T_Planner.nm, pl_mode, _, rfl, q, dy, _, rfl, hq, q, G, rfl, ⟨dy, u, hq, hu⟩, sz2, fun tt ntt => ⟨tt, _, rfl, .inr (SqT.of upd_same), rfl, rfl, _, rfl, ?_⟩⟩
    have x1 := Ex.new (o := .tup [.str G.m, .str "text"]) ntt
    have hp1 := x1 _ _ hp
    have ht1 := x1 _ _ ht
    have hq1 := x1 _ _ hq
    have hu1 := x1 _ _ hu
    have k1 : ∀ H', Ex (upd H tt (.tup [.str G.m, .str "text"])) H' → Q (.bl (within F G)) H' := fun H' e => k H' (x1.trans e)
    show (if (if true = true then !inV (.str F.m) [.str G.m, .str "text"] else inV (.str F.m) [.str G.m, .str "text"]) = true then _ else _)
    rw [if_pos rfl, e1]
    generalize upd H tt (.tup [.str G.m, .str "text"]) = H1 at hp1 ht1 hq1 hu1 k1 ⊢
    unfold within at k1
    cases c1 : decide (F.m = G.m ∨ F.m = "text") with
    | false =>
      rw [c1] at k1
      exact if_t rfl (k1 H1 (Ex.refl H1))
    | true =>
      rw [c1] at k1
      refine if_f rfl ⟨_, rfl, q, dy, _, rfl, hq1, q, G, rfl, ⟨dy, u, hq1, hu1⟩, _, rfl, ?_⟩
      have rest : (G.u && !F.u) = false → tRet (tCB (rAll K) (tCons (tLc (iZipA K
          (tCons (tSl (rSlA K) (tFld K (tVar 0) "_truths") (tPart (tC (V.int 1))) tNoPart) (tCons (tSl (rSlA K) (tFld K (tVar 1) "_truths") (tPart (tC (V.int 1))) tNoPart) tNil)))
          (gTup K 2 (gCons (gName 2) (gCons (gName 3) gNil))) tYes (tOrV (tVar 3) (tNotV (tVar 2))) [2, 3]) tNil)) { nx := fun x H' => Q V.non H', rt := Q } (L2.start ["self", "other", "mine", "theirs"] [V.ref p, V.ref q]) H1 := fun hz => by
        rw [hz] at k1
        have nz : ∀ X : Face, ¬ (HT.sIx X.ts.length 0 (some 1) = 0 ∧ HT.sIx X.ts.length X.ts.length none = X.ts.length) := fun X h => absurd h.1 (by show ¬ (1 = 0); decide)
        refine ⟨_, rfl, p, C, dx, _, _, rfl, hp1, T_Planner.cl, T_Planner.nt, pl_truths, 1, rfl, t, F.ts, rfl, SqT.of ht1, fun h => absurd h (nz F), fun _ p1 np1 => ?_⟩
        have x2 := Ex.new (o := .tup (cutV F.ts (some 1) none)) np1
        refine ⟨_, rfl, q, C, dy, _, _, rfl, x2 _ _ hq1, T_Planner.cl, T_Planner.nt, pl_truths, 1, rfl, u, G.ts, rfl, SqT.of (x2 _ _ hu1), fun h => absurd h (nz G), fun _ p2 np2 => ?_⟩
        have x3 := Ex.new (o := .tup (cutV G.ts (some 1) none)) np2
        have h1 := x3 _ _ (upd_same (H := H1) (a := p1) (o := .tup (cutV F.ts (some 1) none)))
        have h2 : upd (upd H1 p1 (.tup (cutV F.ts (some 1) none))) p2 (.tup (cutV G.ts (some 1) none)) p2 = some (.tup (cutV G.ts (some 1) none)) := upd_same
        have x13 := x2.trans x3
        generalize upd (upd H1 p1 (.tup (cutV F.ts (some 1) none))) p2 (.tup (cutV G.ts (some 1) none)) = H3 at h1 h2 x13 ⊢
        refine ⟨p1, p2, [.bl F.f, .bl F.b, .bl F.e], [.bl G.f, .bl G.b, .bl G.e], rfl, .inr ⟨SqT.of h1, SqT.of h2, fun D nD => ?_⟩⟩
        refine lc_zipT (xs := [.bl F.f, .bl F.b, .bl F.e]) (ys := [.bl G.f, .bl G.b, .bl G.e]) rfl (fun j H' => Ex H3 H' ∧ H' D = some (.lst ((([G.f || !F.f, G.b || !F.b, G.e || !F.e] : List Bool).take j).map V.bl))) ?_ (fun j H' z => ⟨SqT.of (z.1 _ _ h1), SqT.of (z.1 _ _ h2)⟩) ?_ ?_
        · exact ⟨Ex.new nD, upd_same⟩
        · rintro j n o T H' hn ho2 ⟨e2, hD⟩ nT
          have e3 := e2.trans (Ex.new (o := .tup [n, o]) nT)
          have hT : SqT K (upd H' T (.tup [n, o])) T [n, o] := SqT.of upd_same
          have hD3 := (Ex.new (o := .tup [n, o]) nT) _ _ hD
          generalize upd H' T (.tup [n, o]) = H4 at e3 hT hD3 ⊢
          have jl : j < 3 := (List.getElem?_eq_some_iff.mp ho2).1
          obtain ⟨x, y, rfl, rfl, hval⟩ : ∃ x y, n = V.bl x ∧ o = V.bl y ∧ ([G.f || !F.f, G.b || !F.b, G.e || !F.e] : List Bool)[j]? = some (y || !x) := by
            match j, jl, hn, ho2 with
            | 0, _, h1, h2 => cases h1; cases h2; exact ⟨_, _, rfl, rfl, rfl⟩
            | 1, _, h1, h2 => cases h1; cases h2; exact ⟨_, _, rfl, rfl, rfl⟩
            | 2, _, h1, h2 => cases h1; cases h2; exact ⟨_, _, rfl, rfl, rfl⟩
          have fin : Ex H3 (upd H4 D (.lst ((([G.f || !F.f, G.b || !F.b, G.e || !F.e] : List Bool).take j).map V.bl ++ [.bl (y || !x)]))) ∧
              upd H4 D (.lst ((([G.f || !F.f, G.b || !F.b, G.e || !F.e] : List Bool).take j).map V.bl ++ [.bl (y || !x)])) D = some (.lst ((([G.f || !F.f, G.b || !F.b, G.e || !F.e] : List Bool).take (j + 1)).map V.bl)) :=
            ⟨e3.mut nD, by rw [upd_same, takeS hval, List.map_append]; rfl⟩
          have sz : ((([G.f || !F.f, G.b || !F.b, G.e || !F.e] : List Bool).take j).map V.bl).length < sizeLine := Nat.lt_of_le_of_lt (show _ ≤ 3 by rw [List.length_map, List.length_take]; omega) (by decide)
          refine ⟨T, _, rfl, hT, rfl, _, _, rfl, _, _, rfl, rfl, rfl, _, rfl, y, rfl, ?_⟩
          cases y with
          | true => exact if_t rfl ⟨_, hD3, sz, fin⟩
          | false => exact if_f rfl ⟨_, rfl, x, rfl, _, hD3, sz, fin⟩
        · rintro H5 ⟨e5, hD⟩
          refine ⟨D, [G.f || !F.f, G.b || !F.b, G.e || !F.e], rfl, SqL.of hD, ?_⟩
          have := k1 H5 (x13.trans e5)
          simpa using this
      cases hg : G.u with
      | false =>
        refine if_f rfl (if_f rfl ?_)
        exact rest (by rw [hg]; rfl)
      | true =>
        refine if_t rfl ⟨_, rfl, p, dx, _, rfl, hp1, p, F, rfl, ⟨dx, t, hp1, ht1⟩, _, rfl, ?_⟩
        cases hf : F.u with
        | true =>
          exact if_f rfl (rest (by rw [hg, hf]; rfl))
        | false =>
          rw [hg, hf] at k1
          exact if_t rfl (k1 H1 (Ex.refl H1))
theorem ok_all_planners {f : Addr} {fd : FuncData} (D : Def K mg "all_planners" s_all_planners f fd []) (bi : Bi mg)
    (C_TRUTHS : ConT K mg "TRUTHS" a_TRUTHS (truthsL.map V.str)) (C_MODES : ConT K mg "MODES" a_MODES (modes.map V.str))
    (D_planner : Def K mg "_planner" s_planner f_planner fd_planner ["mode", "truths"])
    (G_planner : FnOk P w K mg base CX0 5 f_planner fd_planner ["mode", "truths"] (spMk K C)) :
    FnOk P w K mg base CX0 6 f fd [] (spAllP K C) := by
  refine D.fn.ok sc_all_planners (fun vs H Q E h => ?_) (fun cdv A outer s0 H vs Q E hr h => ?_)
  · obtain ⟨rfl, _⟩ := h
    rfl
  · obtain ⟨rfl, k⟩ := h
    refine ⟨_, (pss_cons (ps_set (i := 0) sc_all_planners.nd rfl (Or.inr rfl) (pe_lst (pa_cons (pe_tup pa_nil) pa_nil)))
  (pss_cons (ps_for PassesOwn.never rfl (pi_tup (pe_glob (v := .ref a_TRUTHS) rfl C_TRUTHS.mg rfl)) (pg_name (i := 1) sc_all_planners.nd rfl (Or.inl rfl))
    (pss_one (ps_set (i := 0) sc_all_planners.nd rfl (Or.inr rfl) (pe_lc2 (own := [("truths", 2), ("truth", 3)]) (vs1 := [3]) rfl sc_all_planners.nd (pi_list (pv 0)) (blkOk_by (N := ["lists", "_", "truths", "truth", "mode"]) (sc := defScope s_all_planners) (by decide +kernel)) (by decide) (fun _ _ _ _ _ => (pg_name (i := 2) sc_all_planners.nd rfl (Or.inl rfl))) (fun _ _ _ _ _ => pts_nil) (fun _ _ _ _ _ => (pi_tupK (K := K) rfl (pe_tup (pa_cons pe_bl (pa_cons pe_bl pa_nil))))) (fun _ _ _ _ _ => (pg_name (i := 3) sc_all_planners.nd rfl (Or.inl rfl))) (fun _ _ _ _ _ => pts_nil) (fun _ _ _ _ _ => (pe_op (op_catAK (K := K) rfl) (pv 2) (pe_tup (pa_cons (pv 3) pa_nil))))))))
  (pss_one (ps_ret (pe_lc2 (own := [("mode", 4), ("truths", 2)]) (vs1 := [2]) rfl sc_all_planners.nd (pi_tup (pe_glob (v := .ref a_MODES) rfl C_MODES.mg rfl)) (blkOk_by (N := ["lists", "_", "truths", "truth", "mode"]) (sc := defScope s_all_planners) (by decide +kernel)) (by decide) (fun _ _ _ _ _ => (pg_name (i := 4) sc_all_planners.nd rfl (Or.inl rfl))) (fun _ _ _ _ _ => pts_nil) (fun _ _ _ _ _ => (pi_listK (K := K) rfl (pv 0))) (fun _ _ _ _ _ => (pg_name (i := 2) sc_all_planners.nd rfl (Or.inl rfl))) (fun _ _ _ _ _ => pts_nil) (fun _ _ _ _ _ => (pe_call G_planner (hr.mono (by first | decide | omega)) rfl D_planner.mg D_planner.fn.kp D_planner.bd .nil pass0 (pa_cons (pv 4) (pa_cons (pv 2) pa_nil))))))))), ?_⟩
    refine ⟨by decide, fun t0 n0 => ⟨sz1, fun l0 nl0 => ?_⟩⟩
    have x0 := (Ex.new (o := .tup []) n0).trans (Ex.new (o := .lst [.ref t0]) nl0)
    have hl0 : upd (upd H t0 (.tup [])) l0 (.lst [.ref t0]) l0 = some (.lst [.ref t0]) := upd_same
    have ht0 := (Ex.new (o := .lst [.ref t0]) nl0) _ _ (upd_same (H := H) (a := t0) (o := .tup []))
    generalize upd (upd H t0 (.tup [])) l0 (.lst [.ref t0]) = H1 at x0 hl0 ht0 ⊢
    refine ⟨a_TRUTHS, rfl, ⟨_, C_TRUTHS.at_ H1⟩, for_tup (xs := truthsL.map V.str) (fun i σ H' => ∃ (y1 y2 y3 y4 : Option V) (l : Addr) (as : List Addr), σ = [some (.ref l), y1, y2, y3, y4] ∧ Ex H H' ∧ H' l = some (.lst (as.map V.ref)) ∧ Paired (TupAt H') as (blists i)) ?_ (fun i σ H' _ _ => C_TRUTHS.at_ H') ?_ ?_⟩
    · exact ⟨_, _, _, _, l0, [t0], rfl, x0, hl0, .cons ht0 .nil⟩
    · rintro i z σ H2 hi ⟨y1, y2, y3, y4, l, as, rfl, x2, hl, has⟩
      have il : i < 4 := by simpa [truthsL] using (List.getElem?_eq_some_iff.mp hi).1
      have bl16 := blists_len i (by omega)
      have asl : as.length = (blists i).length := Paired.length has
      refine ⟨_, rfl, l, rfl, ⟨_, SqL.of hl⟩, fun D nD => ?_⟩
      refine lc2_list (xs := as.map V.ref) (fun j H' => Ex H2 H' ∧ ∃ cs : List Addr, H' D = some (.lst (cs.map V.ref)) ∧ Paired (TupAt H') cs (((blists i).take j).flatMap two)) ?_ (fun j H' _ z => SqL.of (z.1 _ _ hl)) ?_ ?_
      · exact ⟨Ex.new nD, [], upd_same, .nil⟩
      · rintro j z H3 hj ⟨x3, cs, hD, hcs⟩
        obtain ⟨a, haj, rfl⟩ : ∃ a, as[j]? = some a ∧ z = V.ref a := by
          rw [List.getElem?_map] at hj
          obtain ⟨r, h1, h2⟩ := Option.map_eq_some_iff.mp hj
          exact ⟨r, h1, h2.symm⟩
        obtain ⟨bs, hbs, hab⟩ := Gx.paired_get has haj
        have jl := (List.getElem?_eq_some_iff.mp hbs).1

        refine ⟨rfl, ?_⟩
        refine ⟨sz2, fun tt ntt => ⟨tt, rfl, ⟨_, SqT.of upd_same⟩, ?_⟩⟩
        have x4 := Ex.new (o := .tup [.bl false, .bl true]) ntt
        have htt : upd H3 tt (.tup [.bl false, .bl true]) tt = some (.tup [.bl false, .bl true]) := upd_same
        have hab4 : upd H3 tt (.tup [.bl false, .bl true]) a = some (.tup (bs.map V.bl)) := x4 _ _ (x3 _ _ hab)
        refine inner_tup (xs := [.bl false, .bl true]) (fun c H' => Ex H2 H' ∧ (ExI (upd H3 tt (.tup [.bl false, .bl true])) H') ∧ ∃ cs : List Addr, H' D = some (.lst (cs.map V.ref)) ∧ Paired (TupAt H') cs (((blists i).take j).flatMap two ++ (two bs).take c)) ?_ (fun c H' _ z => z.2.1.sq (SqT.of htt)) ?_ ?_
        · exact ⟨x3.trans x4, ExI.of (Ex.refl _), cs, x4 _ _ hD, by rw [List.take_zero, List.append_nil]; exact tupsI (ExI.of x4) hcs⟩
        · rintro c y H5 hc ⟨x5, xi5, cs5, hD5, hcs5⟩
          obtain ⟨b, rfl, hb⟩ : ∃ b, y = V.bl b ∧ (two bs)[c]? = some (bs ++ [b]) := by
            match c, hc with
            | 0, h => cases h; exact ⟨false, rfl, rfl⟩
            | 1, h => cases h; exact ⟨true, rfl, rfl⟩
            | n + 2, h => simp at h
          have cl5 : cs5.length ≤ 100 := by
            have := Paired.length hcs5
            rw [List.length_append, two_len, List.length_take, List.length_take] at this
            have t2 : (two bs).length = 2 := rfl
            omega
          have bsl : bs.length ≤ 100000 := by
            have : ∀ i ≤ 4, ∀ b ∈ blists i, b.length ≤ 4 := by decide
            exact Nat.le_trans (this i (by omega) bs (List.mem_of_getElem? hbs)) (by decide)
          refine ⟨rfl, _, rfl, _, rfl, sz1, fun t1 nt1 => ?_⟩
          have x6 := Ex.new (o := .tup [.bl b]) nt1
          refine cat_one (Q := _) (x6 _ _ (xi5 _ _ hab4 rfl)) upd_same (by rw [List.length_map]; exact bsl) fun q H7 e7 hq => ?_
          have x57 := x6.trans e7
          have ei : ExI H7 (upd H7 D (.lst (cs5.map V.ref ++ [.ref q]))) := ExI.put (x57 _ _ hD5) rfl
          refine ⟨_, x57 _ _ hD5, by rw [List.length_map]; exact Nat.lt_of_le_of_lt cl5 (by decide), (x5.trans x57).mut nD, (xi5.trans (ExI.of x57)).trans ei, cs5 ++ [q], by rw [upd_same, List.map_append]; rfl, ?_⟩
          rw [takeS hb, ← List.append_assoc]
          refine paired_app (tupsI ei (tupsI (ExI.of x57) hcs5)) (.cons ?_ .nil)
          refine ei _ _ ?_ rfl
          rw [hq, List.map_append]; rfl
        · rintro H5 ⟨x5, xi5, cs5, hD5, hcs5⟩
          refine ⟨x5, cs5, hD5, ?_⟩
          rw [flatMap_take hbs]
          exact hcs5
      · rintro H3 ⟨x3, cs, hD, hcs⟩
        rw [List.length_map, asl, List.take_length] at hcs
        exact ⟨_, _, _, _, D, cs, rfl, x2.trans x3, hD, hcs⟩
    · rintro σ H2 ⟨y1, y2, y3, y4, l, as, rfl, x2, hl, has⟩
      have asl : as.length = 16 := Paired.length has
      refine ⟨a_MODES, rfl, ⟨_, C_MODES.at_ H2⟩, fun D nD => ?_⟩
      refine lc2_tup (xs := modes.map V.str) (fun j H' => Ex H2 H' ∧ ∃ ps : List Addr, H' D = some (.lst (ps.map V.ref)) ∧ Paired (PlnAt C H') ps ((modes.take j).flatMap fun m => (blists 4).map (faceOf m))) ?_ (fun j H' _ _ => C_MODES.at_ H') ?_ ?_
      · exact ⟨Ex.new nD, [], upd_same, .nil⟩
      · rintro j z H3 hj ⟨x3, ps, hD, hps⟩
        obtain ⟨m, rfl, hm⟩ : ∃ m, z = V.str m ∧ modes[j]? = some m := by
          rw [List.getElem?_map] at hj
          obtain ⟨r, h1, h2⟩ := Option.map_eq_some_iff.mp hj
          exact ⟨r, h2.symm, h1⟩
        have jl := (List.getElem?_eq_some_iff.mp hm).1
        have jl3 : j < 3 := jl
        refine ⟨rfl, ?_⟩
        refine ⟨_, rfl, l, rfl, ⟨_, SqL.of (x3 _ _ hl)⟩, ?_⟩
        refine inner_list (xs := as.map V.ref) (fun c H' => Ex H2 H' ∧ ∃ cs : List Addr, H' D = some (.lst (cs.map V.ref)) ∧ Paired (PlnAt C H') cs (((modes.take j).flatMap fun m => (blists 4).map (faceOf m)) ++ ((blists 4).map (faceOf m)).take c)) ?_ (fun c H' _ z => SqL.of (z.1 _ _ hl)) ?_ ?_
        · exact ⟨x3, ps, hD, by rw [List.take_zero, List.append_nil]; exact hps⟩
        · rintro c y H5 hc ⟨x5, cs5, hD5, hcs5⟩
          obtain ⟨a, hac, rfl⟩ : ∃ a, as[c]? = some a ∧ y = V.ref a := by
            rw [List.getElem?_map] at hc
            obtain ⟨r, h1, h2⟩ := Option.map_eq_some_iff.mp hc
            exact ⟨r, h1, h2.symm⟩
          obtain ⟨bs, hbs, hab⟩ := Gx.paired_get has hac
          have hfc : ((blists 4).map (faceOf m))[c]? = some (faceOf m bs) := by rw [List.getElem?_map]; exact congrArg (Option.map (faceOf m)) hbs
          have e4 : ∃ a b c d, bs = [a, b, c, d] := by
            have : ∀ b ∈ blists 4, b.length = 4 := by decide
            have := this bs (List.mem_of_getElem? hbs)
            match bs, this with
            | [a, b, c, d], _ => exact ⟨a, b, c, d, rfl⟩
          obtain ⟨b1, b2, b3, b4, rfl⟩ := e4
          have cl5 : cs5.length ≤ 100 := by
            have h := Paired.length hcs5
            rw [List.length_append, List.length_take] at h
            have h1 : ∀ j < 3, ((modes.take j).flatMap fun m => (blists 4).map (faceOf m)).length ≤ 48 := by decide
            have h2 : ((blists 4).map (faceOf m)).length = 16 := rfl
            have := h1 j jl3
            omega
          refine ⟨rfl, _, rfl, _, rfl, a, faceOf m [b1, b2, b3, b4], rfl, List.mem_of_getElem? hm, .inl (SqT.of (x5 _ _ hab)), fun q H7 e7 nq hq => ?_⟩
          refine ⟨_, e7 _ _ hD5, by rw [List.length_map]; exact Nat.lt_of_le_of_lt cl5 (by decide), (x5.trans e7).mut nD, cs5 ++ [q], by rw [upd_same, List.map_append]; rfl, ?_⟩
          rw [takeS hfc, ← List.append_assoc]
          exact paired_app (L2.Paired.mapP hcs5 fun a F h => (h.to e7).put (e7 _ _ hD5)) (.cons (hq.put (e7 _ _ hD5)) .nil)
        · rintro H5 ⟨x5, cs5, hD5, hcs5⟩
          refine ⟨x5, cs5, hD5, ?_⟩
          rw [flatMap_take hm]
          have e16 : (as.map V.ref).length = ((blists 4).map (faceOf m)).length := by rw [List.length_map, asl]; rfl
          rw [e16, List.take_length] at hcs5
          exact hcs5
      · rintro H3 ⟨x3, ps, hD, hps⟩
        have e : (modes.map V.str).length = modes.length := List.length_map ..
        rw [e, List.take_length] at hps
        exact k D ps H3 (x2.trans x3) (none_back x2 nD) hD hps
end
end K41

set_option Elab.async false
set_option linter.all false
set_option maxRecDepth 100000
set_option maxHeartbeats 400000
/-! `==` and `!=` of an instance whose class has an own `__eq__` and no own `__ne__`. -/
namespace Gx
open PySem PySem.Spec PyProof.Rows L2 Evl
/-- `a == y`, a's class with an own `__eq__` -/
def rEqI (K : PySem.W.Frag) (C : Addr) (sp : Sp) (E : XK) : R2 := fun x y H Q => ∃ (a dx : Addr) (fs : List (Str × V)) (tb : Value), x = .ref a ∧ H a = some (.ins C dx fs) ∧ TyX K H y tb ∧ PySem.W.notFirst K C tb = true ∧ sp [x, y] H Q E
theorem op_eqI {X : Cx} {CX : CXT} {C g : Addr} {n : Nat} {sp : Sp} {E : XK} (hs : PySem.W.findIn X.K (.ref C) "__eq__" = some (some (.ref g))) (hf : PySem.W.isFn X.K (.ref g) = true)
    (F : FnR X.prog X.w X.K X.mg X.base CX n g sp) (hr : Room n X.A) (hx : Passes CX X E) : OpR X (compareOp .Eq) (rEqI X.K C sp E) := by
  rintro pins s σ H x y v u Q inv rx ry ⟨a, dx, fs, tb, rfl, ha, ty, nf, h⟩
  cases rx
  obtain ⟨mA, om, _⟩ := L2.ins_get inv.hok ha
  obtain ⟨od, I, _⟩ := om.look
  obtain ⟨P, kx, hP, _⟩ := L2.kit_of inv ry ty
  obtain ⟨m, fr⟩ := inv.fr
  have e : compareOp .Eq (.ref a) u = richCompare .Eq (.ref a) u := rfl
  rw [e]
  have back : wpAny (model X.prog X.w) X.A (call (.ref g) [.ref a, u]) (PySem.W.CmpBack (EP X pins σ Q)) X.xe s := by
    refine wpAny_mono (wpAny_call (L2.run_fnR F hr hx inv (.cons (show RelV (.ref a) (.ref a) from rfl) (.cons ry .nil)) h)) (fun v s' q => ?_) (fun _ _ q => q)
    obtain ⟨z, H', i, r, q⟩ := q
    exact SlX.cmpback r ⟨z, H', i, r, q⟩
  exact PySem.W.cmp_K (op := .Eq) hr.units0 fr inv.ok.mod.kin I (kx.ty _ _ inv.kIn hP) nf hs hf back
/-- the default `__ne__` is found -/
theorem ifBound_ne {M : Model} {A : Around} {E : Value → Shared → Prop} {s : Shared} {K : PySem.W.Frag} {x C : Addr} {ox : Obj} {od : Option Obj} {args : List Value} {Q : Option Value → Shared → Prop}
    (kin : K.In s.heap) (I : PySem.W.InstAt s.heap x ox C od) (hs : PySem.W.findIn K (.ref C) "__ne__" = some (some (.builtin "object.__ne__")))
    (h : wpAny M A (call (.builtin "object.__ne__") (.ref x :: args)) (fun v => Q (some v)) E s) : wpAny M A (callSpecialIfBound? (.ref x) "__ne__" args) Q E s := by
  unfold callSpecialIfBound? bindSpecialIfBound? specialOf
  refine wpAny_holding (wpAny_bind (wpAny_bind (wpAny_bind (PySem.W.Looks.here I.type (PySem.W.Looks.here (PySem.W.looks_findIn kin hs) ?_)))))
  refine wpAny_bind (wpAny_askSetting ?_)
  have e : bindSpecial (.builtin "object.__ne__") (.ref x) = pure (Value.builtin "object.__ne__", [Value.ref x]) := F.cmp_object.ne.bind _
  have fin : wpAny M A (call (.builtin "object.__ne__") ([Value.ref x] ++ args)) (fun v => Q (some v)) E s := h
  refine wpAny_ite ?_
  split
  · refine wpAny_bind (wpAny_of_eq e (wpAny_pure (wpAny_bind (wpAny_mono fin (fun v s' q => wpAny_pure q) fun _ _ q => q))))
  · refine wpAny_tryCatch (wpAny_bind (wpAny_of_eq e (wpAny_pure (wpAny_bind (wpAny_mono fin (fun v s' q => wpAny_pure q) fun _ _ q => q)))))
def rNeI (K : PySem.W.Frag) (C : Addr) (sp : Sp) (E : XK) : R2 := fun x y H Q => ∃ (a dx : Addr) (fs : List (Str × V)) (tb : Value), x = .ref a ∧ H a = some (.ins C dx fs) ∧ TyX K H y tb ∧ PySem.W.notFirst K C tb = true ∧ sp [x, y] H (fun z H' => ∃ b, z = .bl b ∧ Q (.bl (!b)) H') E
theorem call_objNe {prog : Program} {w : World} {A : Around} {E : Value → Shared → Prop} {s : Shared} {K : PySem.W.Frag} {x C g : Addr} {ox : Obj} {od : Option Obj} {u : Value} {Q : Value → Shared → Prop}
    (kin : K.In s.heap) (I : PySem.W.InstAt s.heap x ox C od) (ho : PySem.W.mroIn K C (.type "object") = some true) (hu : A.in1.units < cLine)
    (hs : PySem.W.findIn K (.ref C) "__eq__" = some (some (.ref g))) (hf : PySem.W.isFn K (.ref g) = true)
    (h : wpAny (model prog w) A.in1 (call (.ref g) [.ref x, u]) (fun v s' => ∃ b, v = .bool b ∧ Q (.bool !b) s') E s) :
    wpAny (model prog w) A (call (.builtin "object.__ne__") [.ref x, u]) Q E s := by
  refine wpAny_call (codeAny_call_builtin F.cmp_object.ne.plain F.cmpEntry_ne ?_)
  refine PySem.W.check_slot F.cmpKind_ne F.cmpSplit_ne (PySem.W.Looks.andThen I.type ?_) (F.cmpArgs_ne _ _) ?_
  · exact PySem.W.looks_mroIn kin ho
  · unfold Builtin.«object.__ne__» slotArgs
    refine wpAny_bind (wpAny_of_eq (a := (Value.ref x, [u])) rfl ?_)
    refine wpAny_bind (wpAny_cRoomFor hu ?_)
    refine wpAny_bind (PySem.W.ifBound_K kin I hs hf (wpAny_mono h (fun v s' q => ?_) fun _ _ q => q))
    obtain ⟨b, rfl, q⟩ := q
    refine wpAny_bind (wpAny_of_eq (a := b) rfl ?_)
    exact wpAny_pure q
theorem op_neI {X : Cx} {CX : CXT} {C g : Addr} {n : Nat} {sp : Sp} {E : XK} (hs : PySem.W.findIn X.K (.ref C) "__eq__" = some (some (.ref g))) (hf : PySem.W.isFn X.K (.ref g) = true)
    (hn : PySem.W.findIn X.K (.ref C) "__ne__" = some (some (.builtin "object.__ne__"))) (ho : PySem.W.mroIn X.K C (.type "object") = some true)
    (F : FnR X.prog X.w X.K X.mg X.base CX n g sp) (hr : Room (n + 1) X.A) (hx : Passes CX X E) : OpR X (compareOp .NotEq) (rNeI X.K C sp E) := by
  rintro pins s σ H x y v u Q inv rx ry ⟨a, dx, fs, tb, rfl, ha, ty, nf, h⟩
  cases rx
  obtain ⟨mA, om, _⟩ := L2.ins_get inv.hok ha
  obtain ⟨od, I, _⟩ := om.look
  obtain ⟨P, kx, hP, _⟩ := L2.kit_of inv ry ty
  have hr1 : Room n X.A.in1 := hr.in1
  have e : compareOp .NotEq (.ref a) u = richCompare .NotEq (.ref a) u := rfl
  rw [e]
  have call : wpAny (model X.prog X.w) X.A (call (.builtin "object.__ne__") [.ref a, u]) (EP X pins σ Q) X.xe s := by
    refine call_objNe inv.kIn I ho hr1.units0 hs hf ?_
    refine wpAny_mono (wpAny_call (SlX.run_at F hr1 inv.env0.in1 hx inv (.cons (show RelV (.ref a) (.ref a) from rfl) (.cons ry .nil)) h)) (fun v s' q => ?_) (fun _ _ q => q)
    obtain ⟨z, H', i, r, b, rfl, q⟩ := q
    cases r
    exact ⟨b, rfl, .bl (!b), H', i, (show RelV (.bl (!b)) (.bool (!b)) from rfl), q⟩
  unfold richCompare
  refine wpAny_holding (wpAny_bind (wpAny_cRoomFor hr.units0 ?_))
  have o : oneThing? .NotEq (.ref a) u = none := by cases u <;> rfl
  rw [o]
  have tryc : wpAny (model X.prog X.w) X.A (tryCompare (.ref a) "__ne__" u) (fun r s' => ∃ v, r = some v ∧ EP X pins σ Q v s') X.xe s := by
    unfold tryCompare
    refine wpAny_bind (ifBound_ne inv.kIn I hn (wpAny_mono call (fun v s' q => ?_) fun _ _ q => q))
    obtain ⟨z, H', i, r, q⟩ := q
    have q' : EP X pins σ Q v s' := ⟨z, H', i, r, q⟩
    have nn : v ≠ .notImplemented := fun h => by subst h; exact SlX.cmpback (P := fun _ _ => True) (s' := s') r trivial
    cases v <;> first | exact absurd rfl nn | exact wpAny_pure ⟨_, rfl, q'⟩
  refine wpAny_bind (PySem.W.Looks.here I.type (wpAny_bind (PySem.W.Looks.here (kx.ty _ _ inv.kIn hP) ?_)))
  refine wpAny_ite ?_
  by_cases hc : tb = .ref C
  · subst hc
    rw [if_neg (by simp)]
    refine wpAny_bind (wpAny_pure (wpAny_ite_false (by decide) ?_))
    exact wpAny_bind (wpAny_mono tryc (fun r s' q => by obtain ⟨v, rfl, q⟩ := q; exact wpAny_pure q) fun _ _ q => q)
  · have sub : PySem.W.subIn X.K tb (.ref C) = some false := by
      have := nf
      unfold PySem.W.notFirst at this
      rcases Bool.or_eq_true _ _ |>.mp this with h1 | h1
      · exact absurd (eq_of_beq h1) hc
      · exact eq_of_beq h1
    rw [if_pos (by simpa using fun h => hc h.symm)]
    refine wpAny_bind (PySem.W.Looks.here (PySem.W.looks_subIn inv.kIn sub) (wpAny_ite_false (by decide) ?_))
    exact wpAny_bind (wpAny_mono tryc (fun r s' q => by obtain ⟨v, rfl, q⟩ := q; exact wpAny_pure q) fun _ _ q => q)
end Gx

set_option Elab.async false
set_option linter.all false
set_option maxRecDepth 100000
set_option maxHeartbeats 400000
/-! isinstance of a caught error that has a field. -/
namespace Gx
open PySem PySem.Spec PyProof.Rows L2 Evl
theorem kind_ga : builtinKind "BaseException.__getattribute__" = some Manifest.AttrKind.slot := by decide +kernel
theorem split_ga : splitId "BaseException.__getattribute__" = some ("BaseException", "__getattribute__") := by decide +kernel
theorem class_of {prog : Program} {w : World} {A : Around} {E : Value → Shared → Prop} {s : Shared} {K : PySem.W.Frag} {x D : Addr} {ox od : Obj} {Q : Option Value → Shared → Prop}
    (c : ExcC K D) (kin : K.In s.heap) (I : PySem.W.InstAt s.heap x ox D (some od))
    (h : Q (some (.ref D)) { heap := s.heap, gens := s.gens, drawn := s.drawn, toks := s.toks + 1, os := s.os }) :
    wpAny (model prog w) A (getAttr? (.ref x) "__class__") Q E s := by
  have fo : PySem.W.findObj K D (some od) "__class__" = some (.bind (.builtin "getset_descriptor.__get__") (.builtin "object.__class__")) := by
    refine PySem.W.findObj_data ?_ c.ha c.hn c.ht
    obtain ⟨a, h1, _⟩ := PySem.W.any_some c.hd
    rw [h1]; rfl
  unfold getAttr? getAttrBy? getAttrBy
  refine wpAny_bind (wpAny_mkText ?_)
  refine wpAny_bind (wpAny_attempt (wpAny_holding (wpAny_bind (PySem.W.Looks.at I.type (wpAny_bind (PySem.W.Looks.at (PySem.W.looks_findIn kin c.hg) ?_))))))
  show wpAny _ _ (if _ then _ else _) _ _ _
  refine wpAny_ite_false (show decide ((true && (Value.builtin "BaseException.__getattribute__" == Value.builtin "object.__getattribute__")) = true) = false from by decide) ?_
  unfold getAttrByItsOwn hookBefore
  refine wpAny_bind (wpAny_ite ?_)
  rw [if_pos (show onTheHeap (.ref D) = true from rfl)]
  refine PySem.W.Looks.at (PySem.W.looks_findIn kin c.hk) ?_
  refine wpAny_bind (wpAny_attempt (wpAny_holding ?_))
  unfold callGetattribute
  refine wpAny_ite_false (by simp) ?_
  unfold boundAndCalled
  refine wpAny_bind (wpAny_of_eq (F.excAttr_ValueError.ga.bind _) ?_)
  show wpAny (model prog w) A (call (.builtin "BaseException.__getattribute__") [.ref x, .str "__class__" s.toks]) _ _ _
  refine wpAny_call (codeAny_call_builtin F.excAttr_ValueError.ga.plain F.entry_bexc_ga ?_)
  refine PySem.W.check_slot (i := "BaseException.__getattribute__") (self := .ref x) (rest := [.str "__class__" s.toks]) (kw := []) kind_ga split_ga (show PySem.W.Looks (model prog w) s.heap (isInstance (.ref x) (.type "BaseException")) true from PySem.W.Looks.andThen I.type (PySem.W.looks_subIn kin c.hs)) (F.args_bexc_ga _ _) ?_
  unfold Builtin.«object.__getattribute__»
  refine wpAny_bind (wpAny_of_eq (a := (Value.ref x, [Value.str "__class__" s.toks])) rfl ?_)
  refine wpAny_bind (wpAny_of_eq (a := ("__class__" : Str)) rfl ?_)
  refine wpAny_bind (PySem.W.Looks.at I.type (wpAny_bind (PySem.W.Looks.at (PySem.W.looks_find kin I fo) ?_)))
  unfold Builtin.ObjectAttr.bindTo
  refine wpAny_bind (wpAny_holding (wpAny_call (PySem.W.class_get kin I c.hm ?_)))
  exact wpAny_pure (wpAny_of_eq (PySem.W.handedOut_of rfl) (wpAny_pure h))
theorem kit_err {K : PySem.W.Frag} {x D : Addr} {ox od : Obj} (c : ExcC K D) : PySem.W.KitX K (.ref x) (.ref D) (fun h => PySem.W.InstAt h x ox D (some od) ∧ ∃ s : Shared, s.heap = h) where
  ty := fun _ _ _ h => h.1.type
  it := fun M h kin hh => by
    obtain ⟨_, s, rfl⟩ := hh
    exact PySem.W.mc_isType kin c.hd
  ne := fun h tp dd its n sl kin ht => by
    obtain ⟨cd, h1, _⟩ := PySem.W.any_some c.hd
    unfold PySem.W.clsIn at h1
    split at h1
    · rename_i l
      have := kin _ _ l
      refine beq_false_of_ne fun e => ?_
      cases e
      rw [ht] at this
      cases this
    · cases h1
  ca := fun kin hh q => class_of c kin hh.1 q
def rIsEd (K : PySem.W.Frag) (a : Addr) (cls : Value) (d : Option Addr) : List V → Hp → VK → Prop := fun xs H Q =>
  ∃ (c : V) (cv : Value) (b : Bool) (D dd : Addr) (fs : List (Str × V)), xs = [.ref a, c] ∧ (∀ u, RelV c u → u = cv) ∧ cls = .ref D ∧ d = some dd ∧ ExcC K D ∧ PySem.W.kitOne K (.ref D) cv = some b ∧ H dd = some (.xd fs) ∧ Q (.bl b) H
theorem call_isEd {X : Cx} {a : Addr} {cls : Value} {d : Option Addr} {oe : Obj} {pn : List (Addr × Obj)} (hz : Zc cls d oe) (hf : ∃ vs, oe.data = .fields vs) :
    CallR (X.suite a ((a, oe) :: pn)) (.builtin "isinstance") (rIsEd X.K a cls d) := by
  rintro pins s σ H xs us Q inv hv ⟨c, cv, b, D, dd, fs, rfl, hc, rfl, rfl, e, hk, hd, q⟩
  obtain ⟨mA, ns, _⟩ : ∃ mA, s.heap.Ns1 dd mA ∧ ∀ f : Str, RelO (List.lookup f fs) (mA f) := inv.hok _ _ hd
  obtain ⟨od, hod, _⟩ := L2.lookIn_ns ns
  have hp := inv.pin (a, oe) (by show (a, oe) ∈ ((a, oe) :: pn) ++ pins; exact List.mem_append_left _ List.mem_cons_self)
  obtain ⟨vs, hvs⟩ := hf
  have I : PySem.W.InstAt s.heap a oe D (some od) := by
    refine ⟨hp.1, hz.1, ?_, ?_⟩
    · unfold PySem.W.notCls; rw [hvs]
    · rw [hz.2]; exact hod
  cases hv with
  | cons r1 hv =>
    cases hv with
    | cons r2 hv =>
      cases hv
      cases r1
      have := hc _ r2
      subst this
      exact PySem.W.kia_one (kit_err e) inv.kIn ⟨I, s, rfl⟩ hk (by intro h; cases h) fun tk => ⟨_, H, inv.kept fun _ _ h => h, (show RelV (.bl b) (.bool b) from rfl), q⟩
end Gx

set_option Elab.async false
set_option linter.all false
set_option maxRecDepth 100000
set_option maxHeartbeats 4000000
namespace K41
open PySem PySem.Spec PyProof.Rows L2 Evl Gx
abbrev s_Planner___eq : Stmt := inClass (topS 8) 9
theorem sc_Planner___eq : FnScope ["self", "other"] ["self", "other"] (defScope s_Planner___eq) := ⟨rfl, rfl, rfl, by decide +kernel, rfl, by decide +kernel, by decide +kernel⟩
/-- what the model asks of the class for ==, != and isinstance -/
structure EqC (K : PySem.W.Frag) (C g : Addr) : Prop where
  ca : PySem.W.findIn K (.ref C) "__class__" = some (some (.builtin "object.__class__"))
  cn : PySem.W.specialIn K (.builtin "object.__class__") "__get__" = some (some (.builtin "getset_descriptor.__get__"))
  ct : PySem.W.takesIn K (.builtin "object.__class__") = some true
  cm : PySem.W.mroIn K C (.type "object") = some true
  eq : PySem.W.findIn K (.ref C) "__eq__" = some (some (.ref g))
  fn : PySem.W.isFn K (.ref g) = true
  ne : PySem.W.findIn K (.ref C) "__ne__" = some (some (.builtin "object.__ne__"))
  nfT : PySem.W.notFirst K C (.type "tuple") = true
  nfN : PySem.W.notFirst K C (.type "NoneType") = true
  koT : PySem.W.kitOne K (.type "tuple") (.ref C) = some false
  koS : PySem.W.kitOne K (.ref C) (.type "str") = some false
  koB : PySem.W.kitOne K (.ref C) (.type "bool") = some false
  koN : PySem.W.kitOne K (.type "NoneType") (.ref C) = some false
theorem EqC.ty {K : PySem.W.Frag} {C g p dx : Addr} {H : Hp} {fs : List (Str × V)} (e : EqC K C g) (c : Cls K C) (h : H p = some (.ins C dx fs)) : TyX K H (.ref p) (.ref C) := .base (.ins h c e.ca e.cn e.ct e.cm)
theorem nf_self {K : PySem.W.Frag} {C : Addr} : PySem.W.notFirst K C (.ref C) = true := by unfold PySem.W.notFirst; simp
theorem ko_self {K : PySem.W.Frag} {C : Addr} : PySem.W.kitOne K (.ref C) (.ref C) = some true := by unfold PySem.W.kitOne; simp
instance : DecidableEq Face := fun a b => decidable_of_iff (a.m = b.m ∧ a.u = b.u ∧ a.f = b.f ∧ a.b = b.b ∧ a.e = b.e) (by cases a; cases b; simp)
def spEqP (K : PySem.W.Frag) (C : Addr) : Sp := fun vs H Q _ => ∃ (p : Addr) (F : Face) (y : V), vs = [.ref p, y] ∧ PlnAt C H p F ∧
  ((∃ (q : Addr) (G : Face), y = .ref q ∧ PlnAt C H q G ∧ Q (.bl (decide (F = G))) H) ∨ (∃ t, TyX K H y t ∧ PySem.W.kitOne K t (.ref C) = some false ∧ Q (.bl false) H))
def dFace (F : Face) : PyData := .tuple [.bool F.u, .bool F.f, .bool F.b, .bool F.e]
theorem dFace_eqv (F G : Face) : (dFace F).eqv (dFace G) = (decide (F.u = G.u) && (decide (F.f = G.f) && (decide (F.b = G.b) && decide (F.e = G.e)))) := by
  obtain ⟨m, a, b, c, d⟩ := F
  obtain ⟨n, a', b', c', d'⟩ := G
  cases a <;> cases a' <;> cases b <;> cases b' <;> cases c <;> cases c' <;> cases d <;> cases d' <;> rfl
theorem dB_ok : ∀ a b c d : Bool, SeqAt.shaped (.tuple [.bool a, .bool b, .bool c, .bool d]) = true := by decide
theorem dFace_ok (F : Face) : SeqAt.shaped (dFace F) = true := dB_ok ..
section
variable {P : Program} {w : World} {K : PySem.W.Frag} {mg : Str → Option Value} {base : Heap} {C fI : Addr} {fdI : FuncData}
theorem ok_eq {f g : Addr} {fd : FuncData} (D : MDef K C "__eq__" "Planner.__eq__" s_Planner___eq f fd ["self", "other"]) (bi : Bi mg) (T_Planner : PlannerT K mg C fI) (Z : EqC K C g) :
    FnOk P w K mg base CX0 1 f fd ["self", "other"] (spEqP K C) := by
  refine D.fn.ok sc_Planner___eq (fun vs H Q E h => ?_) (fun cdv A outer s0 H vs Q E hr h => ?_)
  · obtain ⟨p, F, y, rfl, _⟩ := h
    rfl
  · obtain ⟨p, F, y, rfl, ⟨dx, t, hp, ht⟩, k⟩ := h
    have hu64 := hr.units
    refine ⟨_, (pss_one (ps_ret (pe_and (pe_callB call_isi (by rfl) bi.isinstance bt_isinstance (pa_cons (pv 1) (pa_cons (pe_glob (v := .ref C) rfl T_Planner.gC rfl) pa_nil))) (pe_and (pe_cmpR op_eq (pe_fld (pv 0) rfl) (pe_fld (pv 1) rfl) (nomark _)) (pe_one (pe_cmpR (op_eqD hu64) (pe_fld (pv 0) rfl) (pe_fld (pv 1) rfl) (nomark _))))))), ?_⟩
    rcases k with ⟨q, G, rfl, ⟨dy, u, hq, hu⟩, k⟩ | ⟨ty, h1, h2, k⟩
    · refine ⟨_, rfl, _, .ref C, .ref C, .ref C, true, rfl, .own C, Z.ty T_Planner.cl hq, ko_self, ?_⟩
      refine ⟨_, rfl, if_t rfl ⟨_, rfl, p, C, dx, _, _, rfl, hp, T_Planner.cl, T_Planner.nm, pl_mode, _, rfl, q, C, dy, _, _, rfl, hq, T_Planner.cl, T_Planner.nm, pl_mode, rfl, _, rfl, ?_⟩⟩
      have ends : Q (.bl (decide (F.m = G.m) && (decide (F.u = G.u) && (decide (F.f = G.f) && (decide (F.b = G.b) && decide (F.e = G.e)))))) H := by
        have e : decide (F = G) = (decide (F.m = G.m) && (decide (F.u = G.u) && (decide (F.f = G.f) && (decide (F.b = G.b) && decide (F.e = G.e))))) := by
          obtain ⟨m, a, b, c, d⟩ := F
          obtain ⟨n, a', b', c', d'⟩ := G
          simp only [Face.mk.injEq, Bool.decide_and]
        rw [← e]; exact k
      by_cases hm : F.m = G.m
      · rw [decide_eq_true hm, Bool.true_and] at ends
        refine if_t (decide_eq_true (congrArg V.str hm)) ?_
        refine ⟨_, rfl, p, C, dx, _, _, rfl, hp, T_Planner.cl, T_Planner.nt, pl_truths, _, rfl, q, C, dy, _, _, rfl, hq, T_Planner.cl, T_Planner.nt, pl_truths, dFace F, dFace G, ?_, ?_, dFace_ok F, dFace_ok G, ?_⟩
        · exact .tup (SqT.of ht) (.cons (.bl _) (.cons (.bl _) (.cons (.bl _) (.cons (.bl _) .nil))))
        · exact .tup (SqT.of hu) (.cons (.bl _) (.cons (.bl _) (.cons (.bl _) (.cons (.bl _) .nil))))
        · rw [dFace_eqv]; exact ends
      · rw [decide_eq_false hm, Bool.false_and] at ends
        have e0 : decide (V.str F.m = V.str G.m) = false := decide_eq_false fun z => hm (V.str.inj z)
        rw [e0]
        exact if_f rfl ends
    · refine ⟨_, rfl, y, .ref C, ty, .ref C, false, rfl, .own C, h1, h2, ?_⟩
      exact ⟨_, rfl, if_f rfl k⟩
end
end K41

set_option Elab.async false
set_option linter.all false
set_option maxRecDepth 100000
set_option maxHeartbeats 4000000
namespace K41
open PySem PySem.Spec PyProof.Rows L2 Evl Gx
abbrev s_l_deep : Stmt := topS 16
theorem sc_l_deep : FnScope ["_law_many", "_law_found", "_law_k"] ["_law_many"] (defScope s_l_deep) := ⟨rfl, rfl, rfl, by decide +kernel, rfl, by decide +kernel, by decide +kernel⟩
abbrev s_l_faces : Stmt := topS 17
theorem sc_l_faces : FnScope ["_law_planner"] ["_law_planner"] (defScope s_l_faces) := ⟨rfl, rfl, rfl, by decide +kernel, rfl, by decide +kernel, by decide +kernel⟩
abbrev s_l_made : Stmt := topS 18
theorem sc_l_made : FnScope ["_law_face"] ["_law_face"] (defScope s_l_made) := ⟨rfl, rfl, rfl, by decide +kernel, rfl, by decide +kernel, by decide +kernel⟩
theorem ix_tl {X : Cx} {K : PySem.W.Frag} (h : X.K = K) : IxR X (fun x y H Q => rIxT K x y H Q ∨ rIxL K x y H Q) := IxR.or (ix_tupK h) (ix_listK h)
def Face.vs (F : Face) : List V := .str F.m :: F.ts
def FaceAt (H : Hp) (a : Addr) (F : Face) : Prop := H a = some (.tup F.vs)
theorem FaceAt.to {H H' : Hp} {a : Addr} {F : Face} (h : FaceAt H a F) (e : Ex H H') : FaceAt H' a F := e _ _ h
def spFaces (C : Addr) : Sp := fun vs H Q _ => ∃ (p : Addr) (F : Face), vs = [.ref p] ∧ PlnAt C H p F ∧ ∀ t H', Ex H H' → FaceAt H' t F → Q (.ref t) H'
def faceV (m x1 x2 x3 x4 : V) : Option Face := match m, x1, x2, x3, x4 with
  | .str m, .bl a, .bl b, .bl c, .bl d => some ⟨m, a, b, c, d⟩
  | _, _, _, _, _ => none
theorem face_of {m x1 x2 x3 x4 : V} (h : badAt m [x1, x2, x3, x4] = none) : ∃ F, faceV m x1 x2 x3 x4 = some F ∧ m = .str F.m ∧ [x1, x2, x3, x4] = F.ts ∧ F.m ∈ modes := by
  unfold badAt at h
  split at h
  · cases h
  · rename_i ho
    have ho : okMode m = true := by simpa using ho
    obtain ⟨s, rfl⟩ : ∃ s, m = .str s := by
      cases m with
      | str s => exact ⟨s, rfl⟩
      | _ => exact absurd ho Bool.noConfusion
    have b : ∀ x ∈ [x1, x2, x3, x4], isB x = true := by
      intro x hx
      have := Option.map_eq_none_iff.mp h
      have := List.findIdx?_eq_none_iff.mp this x hx
      simpa using this
    have bl : ∀ x : V, isB x = true → ∃ c, x = .bl c := fun x hx => by
      cases x with
      | bl c => exact ⟨c, rfl⟩
      | _ => exact absurd hx Bool.noConfusion
    obtain ⟨c1, rfl⟩ := bl _ (b x1 (by simp))
    obtain ⟨c2, rfl⟩ := bl _ (b x2 (by simp))
    obtain ⟨c3, rfl⟩ := bl _ (b x3 (by simp))
    obtain ⟨c4, rfl⟩ := bl _ (b x4 (by simp))
    exact ⟨⟨s, c1, c2, c3, c4⟩, rfl, rfl, rfl, of_decide_eq_true ho⟩
def spMade (K : PySem.W.Frag) (C CW : Addr) : Sp := fun vs H Q E => ∃ (a : Addr) (m x1 x2 x3 x4 : V), vs = [.ref a] ∧ (H a = some (.tup [m, x1, x2, x3, x4]) ∨ H a = some (.lst [m, x1, x2, x3, x4])) ∧ (∀ x ∈ [m, x1, x2, x3, x4], Tells K H x) ∧
  (∀ F, badAt m [x1, x2, x3, x4] = none → faceV m x1 x2 x3 x4 = some F → F.m ∈ modes → ∀ p H', Ex H H' → H p = none → PlnAt C H' p F → Q (.ref p) H') ∧
  (∀ j, badAt m [x1, x2, x3, x4] = some j → WishW CW E H j)
section
variable {P : Program} {w : World} {K : PySem.W.Frag} {mg : Str → Option Value} {base : Heap} {C CW fI fW : Addr} {fdI fdW : FuncData}
  {p_Planner_mode f_Planner_mode p_Planner_unknown f_Planner_unknown p_Planner_folds f_Planner_folds p_Planner_beneath f_Planner_beneath p_Planner_early f_Planner_early : Addr} {fd_Planner_mode fd_Planner_unknown fd_Planner_folds fd_Planner_beneath fd_Planner_early : FuncData}
theorem ok_l_faces {f : Addr} {fd : FuncData} (D : Def K mg "_law_faces" s_l_faces f fd ["_law_planner"]) (bi : Bi mg) (T_Planner : PlannerT K mg C fI)
    (D_Planner_mode : PrDef K C "mode" s_Planner_mode "Planner.mode" p_Planner_mode f_Planner_mode fd_Planner_mode)
    (G_Planner_mode : FnOk P w K mg base CX0 1 f_Planner_mode fd_Planner_mode ["self"] (spGet C fun F => .str F.m))
    (D_Planner_unknown : PrDef K C "unknown" s_Planner_unknown "Planner.unknown" p_Planner_unknown f_Planner_unknown fd_Planner_unknown)
    (G_Planner_unknown : FnOk P w K mg base CX0 1 f_Planner_unknown fd_Planner_unknown ["self"] (spGet C fun F => .bl F.u))
    (D_Planner_folds : PrDef K C "folds" s_Planner_folds "Planner.folds" p_Planner_folds f_Planner_folds fd_Planner_folds)
    (G_Planner_folds : FnOk P w K mg base CX0 1 f_Planner_folds fd_Planner_folds ["self"] (spGet C fun F => .bl F.f))
    (D_Planner_beneath : PrDef K C "beneath" s_Planner_beneath "Planner.beneath" p_Planner_beneath f_Planner_beneath fd_Planner_beneath)
    (G_Planner_beneath : FnOk P w K mg base CX0 1 f_Planner_beneath fd_Planner_beneath ["self"] (spGet C fun F => .bl F.b))
    (D_Planner_early : PrDef K C "early" s_Planner_early "Planner.early" p_Planner_early f_Planner_early fd_Planner_early)
    (G_Planner_early : FnOk P w K mg base CX0 1 f_Planner_early fd_Planner_early ["self"] (spGet C fun F => .bl F.e)) :
    FnOk P w K mg base CX0 4 f fd ["_law_planner"] (spFaces C) := by
  refine D.fn.ok sc_l_faces (fun vs H Q E h => ?_) (fun cdv A outer s0 H vs Q E hr h => ?_)
  · obtain ⟨p, F, rfl, _⟩ := h
    rfl
  · obtain ⟨p, F, rfl, hp, k⟩ := h
    refine ⟨_, (pss_one (ps_ret (pe_tup (pa_cons (pe_prop (pv 0) T_Planner.cl D_Planner_mode.pr G_Planner_mode (hr.mono (by first | decide | omega)) D_Planner_mode.bd .nil pass0 rfl) (pa_cons (pe_prop (pv 0) T_Planner.cl D_Planner_unknown.pr G_Planner_unknown (hr.mono (by first | decide | omega)) D_Planner_unknown.bd .nil pass0 rfl) (pa_cons (pe_prop (pv 0) T_Planner.cl D_Planner_folds.pr G_Planner_folds (hr.mono (by first | decide | omega)) D_Planner_folds.bd .nil pass0 rfl) (pa_cons (pe_prop (pv 0) T_Planner.cl D_Planner_beneath.pr G_Planner_beneath (hr.mono (by first | decide | omega)) D_Planner_beneath.bd .nil pass0 rfl) (pa_cons (pe_prop (pv 0) T_Planner.cl D_Planner_early.pr G_Planner_early (hr.mono (by first | decide | omega)) D_Planner_early.bd .nil pass0 rfl) pa_nil)))))))), ?_⟩
    obtain ⟨dx, t, h1, h2⟩ := hp
    have hp : PlnAt C H p F := ⟨dx, t, h1, h2⟩
    refine ⟨_, rfl, p, dx, _, rfl, h1, p, F, rfl, hp, _, rfl, p, dx, _, rfl, h1, p, F, rfl, hp, _, rfl, p, dx, _, rfl, h1, p, F, rfl, hp, _, rfl, p, dx, _, rfl, h1, p, F, rfl, hp, _, rfl, p, dx, _, rfl, h1, p, F, rfl, hp, (show 5 ≤ sizeLine from by decide), fun q nq => ?_⟩
    exact k q _ (Ex.new nq) upd_same
theorem ok_l_made {f : Addr} {fd : FuncData} (D : Def K mg "_law_made" s_l_made f fd ["_law_face"]) (bi : Bi mg) (T_Planner : PlannerT K mg C fI)
    (K_Planner : KBn K fdI pPln 2 kwsP (fun us ws => us ++ ws) (fun vs zs => vs ++ zs))
    (G_Planner___init : FnOk P w K mg base (L2.CX P w) 3 fI fdI pPln (spPlnI K C CW)) :
    FnOk P w K mg base (L2.CX P w) 5 f fd ["_law_face"] (spMade K C CW) := by
  refine D.fn.okX sc_l_made (fun vs H Q E h => ?_) (fun cdv A outer s0 H vs Q E hr h => ?_)
  · obtain ⟨a, m, x1, x2, x3, x4, rfl, _⟩ := h
    rfl
  · obtain ⟨a, m, x1, x2, x3, x4, rfl, ha, tl, kq, ke⟩ := h
    refine ⟨_, (pss_one (ps_ret (pe_makeK T_Planner.mak G_Planner___init (hr.mono (by first | decide | omega)) rfl T_Planner.gC K_Planner (L2.passes_call (L2.takes_of rfl rfl rfl rfl) (fun _ _ _ _ h => h)) (pa_cons (pe_ix (ix_tl (K := K) rfl) (pv 0) pe_int (fun _ _ => rfl)) pa_nil) (pk_cons (pe_ix (ix_tl (K := K) rfl) (pv 0) pe_int (fun _ _ => rfl)) (pk_cons (pe_ix (ix_tl (K := K) rfl) (pv 0) pe_int (fun _ _ => rfl)) (pk_cons (pe_ix (ix_tl (K := K) rfl) (pv 0) pe_int (fun _ _ => rfl)) (pk_cons (pe_ix (ix_tl (K := K) rfl) (pv 0) pe_int (fun _ _ => rfl)) pk_nil))))))), ?_⟩
    have ix : ∀ (i : Int) (v : V) (R : VK), atI [m, x1, x2, x3, x4] i = some v → R v H → (rIxT K (.ref a) (.int i) H R ∨ rIxL K (.ref a) (.int i) H R) := fun i v R e r => by
      rcases ha with ha | ha
      · exact .inl ⟨a, _, i, v, rfl, rfl, SqT.of ha, e, r⟩
      · exact .inr ⟨a, _, i, v, rfl, rfl, SqL.of ha, e, r⟩
    refine ⟨_, rfl, ix 0 m _ rfl ⟨_, rfl, ix 1 x1 _ rfl ⟨_, rfl, ix 2 x2 _ rfl ⟨_, rfl, ix 3 x3 _ rfl ⟨_, rfl, ix 4 x4 _ rfl ⟨rfl, rfl, fun x dx nx ndx nex => ?_⟩⟩⟩⟩⟩⟩
    have ex : ∀ H' : Hp, (∀ b o, upd (upd H dx (.own x)) x (.ins C dx []) b = some o → b ≠ x → H' b = some o) → Ex H H' := fun H' fr b o h =>
      fr b o (by rw [upd_ne (ne_of_none h nx), upd_ne (ne_of_none h ndx)]; exact h) (ne_of_none h nx)
    refine ⟨x, dx, m, x1, x2, x3, x4, rfl, upd_same, fun z hz H' fr => (tl z hz).to (ex H' fr), fun hb t H' nt hp ht fr => ?_, fun j hj d H' fr hd => ke j hj d H' (ex H' fr) hd⟩
    obtain ⟨F, hF, e1, e2, hm⟩ := face_of hb
    exact ⟨rfl, kq F hb hF hm x H' (ex H' fr) nx ⟨dx, t, by rw [hp, e1], by rw [ht, e2]⟩⟩
end
end K41

set_option Elab.async false
set_option linter.all false
set_option maxRecDepth 100000
set_option maxHeartbeats 4000000
namespace K41
open PySem PySem.Spec PyProof.Rows L2 Evl Gx
abbrev s_l_is_in_face : Stmt := topS 20
theorem sc_l_is_in_face : FnScope ["_law_one_here", "_law_other", "_law_more", "_law_at"] ["_law_one_here", "_law_other"] (defScope s_l_is_in_face) := ⟨rfl, rfl, rfl, by decide +kernel, rfl, by decide +kernel, by decide +kernel⟩
def spDeep : Sp := fun vs H Q _ => ∃ n : Nat, vs = [.int (n : Int)] ∧ n ≤ 100 ∧ ∀ l xs H', Ex H H' → H' l = some (.lst xs) → Q (.ref l) H'
def spEvery (K : PySem.W.Frag) : Sp := fun vs H Q _ => vs = [] ∧ ∀ (l : Addr) (ts : List Addr) (H' : Hp), Ex H H' → H l = none → H' l = some (.lst (ts.map V.ref)) → Paired (FaceAt H') ts allFaces → Q (.ref l) H'
def spInFace (K : PySem.W.Frag) : Sp := fun vs H Q _ => ∃ (a b : Addr) (F G : Face), vs = [.ref a, .ref b] ∧ FaceAt H a F ∧ FaceAt H b G ∧ ∀ H', Ex H H' → Q (.bl (within F G)) H'
def rowsF (a b c : Bool) : List (Int × Bool) := [(2, a), (3, b), (4, c)]
def moreF (l : List (Int × Bool)) : List Int := l.filterMap fun p => if p.2 then some p.1 else none
theorem moreF_ok : ∀ a b c : Bool, SeqAt.shaped (.list ((moreF (rowsF a b c)).map PyData.int)) = true := by decide
theorem moreF_eqv : ∀ a b c : Bool, (PyData.list ((moreF (rowsF a b c)).map PyData.int)).eqv (.list []) = (!a && !b && !c) := by decide
theorem dp_ints {K : PySem.W.Frag} {H : Hp} : ∀ l : List Int, DpAll K H (l.map V.int) (l.map PyData.int)
  | [] => .nil
  | i :: l => .cons (.int i) (dp_ints l)
theorem moreF_take {l : List (Int × Bool)} {j : Nat} {i : Int} {c : Bool} (h : l[j]? = some (i, c)) : moreF (l.take (j + 1)) = moreF (l.take j) ++ if c then [i] else [] := by
  unfold moreF
  rw [takeS h, List.filterMap_append]
  cases c <;> rfl
theorem within_b : ∀ z u f b e u' f' b' e' : Bool, (z && !(u' && !u) && ((f' || !f) && ((b' || !b) && (e' || !e)))) = ((!(f && !f') && !(b && !b') && !(e && !e')) && ((u || !u') && z)) := by decide
theorem within_eq (F G : Face) : within F G = ((!(F.f && !G.f) && !(F.b && !G.b) && !(F.e && !G.e)) && ((F.u || !G.u) && decide (F.m = G.m ∨ F.m = "text"))) := within_b ..
section
variable {P : Program} {w : World} {K : PySem.W.Frag} {mg : Str → Option Value} {base : Heap}
theorem ok_l_deep {f : Addr} {fd : FuncData} (D : Def K mg "_law_deep" s_l_deep f fd ["_law_many"]) (bi : Bi mg) :
    FnOk P w K mg base CX0 1 f fd ["_law_many"] spDeep := by
  refine D.fn.ok sc_l_deep (fun vs H Q E h => ?_) (fun cdv A outer s0 H vs Q E hr h => ?_)
  · obtain ⟨n, rfl, _⟩ := h
    rfl
  · obtain ⟨n, rfl, hn, k⟩ := h
    refine ⟨_, (pss_cons (ps_set (i := 1) sc_l_deep.nd rfl (Or.inl rfl) (pe_lst pa_nil))
  (pss_cons (ps_for PassesOwn.never rfl (pi_range1 rfl bi.range (pa_cons (pv 0) pa_nil)) (pg_name (i := 2) sc_l_deep.nd rfl (Or.inl rfl))
    (pss_one (ps_set (i := 1) sc_l_deep.nd rfl (Or.inl rfl) (pe_lst (pa_cons (pv 1) pa_nil)))))
  (pss_one (ps_ret (pv 1))))), ?_⟩
    refine ⟨by decide, fun l nl => ⟨_, rfl, _, rfl, by omega, by omega, ?_⟩⟩
    have x1 := Ex.new (o := .lst []) nl
    refine for_range (n := ((n : Int)).toNat) (fun i σ H' => ∃ (l' : Addr) (xs : List V) (x2 : Option V), σ = [some (.int n), some (.ref l'), x2] ∧ Ex H H' ∧ H' l' = some (.lst xs)) ⟨l, [], none, rfl, x1, upd_same⟩ ?_ ?_
    · rintro i σ H' hi ⟨l', xs, x2, rfl, e1, hl⟩
      exact ⟨_, rfl, sz1, fun q nq => ⟨q, _, _, rfl, e1.trans (Ex.new nq), upd_same⟩⟩
    · rintro σ H' ⟨l', xs, x2, rfl, e1, hl⟩
      exact ⟨_, rfl, k l' xs H' e1 hl⟩
theorem ok_l_is_in_face {f : Addr} {fd : FuncData} (D : Def K mg "_law_is_in_face" s_l_is_in_face f fd ["_law_one_here", "_law_other"]) (bi : Bi mg) :
    FnOk P w K mg base CX0 1 f fd ["_law_one_here", "_law_other"] (spInFace K) := by
  refine D.fn.ok sc_l_is_in_face (fun vs H Q E h => ?_) (fun cdv A outer s0 H vs Q E hr h => ?_)
  · obtain ⟨a, b, F, G, rfl, _⟩ := h
    rfl
  · obtain ⟨a, b, F, G, rfl, ha, hb, k⟩ := h
    have hu64 := hr.units
    refine ⟨_, (pss_cons (ps_setLc (i := 2) (own := [("_law_at", 3)]) rfl sc_l_is_in_face.nd rfl rfl (sw_true rfl rfl rfl (by decide +kernel)) (pi_tup (pe_tup (pa_cons pe_int (pa_cons pe_int (pa_cons pe_int pa_nil))))) (blkOk_by (N := ["_law_one_here", "_law_other", "_law_more", "_law_at"]) (sc := defScope s_l_is_in_face) (by decide +kernel)) (fun _ _ _ _ _ => (pg_name (i := 3) sc_l_is_in_face.nd rfl (Or.inl rfl))) (fun _ _ _ _ _ => (pts_one (L2.PW.pt (pw_and (pt_val (pe_ix (ix_tupK (K := K) rfl) (pv 0) (pv 3) (fun _ _ => rfl))) (pw_and1 (pt_not (pt_val (pe_ix (ix_tupK (K := K) rfl) (pv 1) (pv 3) (fun _ _ => rfl))))))))) (fun _ _ _ _ _ => (pv 3)))
  (pss_one (ps_ret (pe_and (pe_cmpR (op_eqD hu64) (pv 2) (pe_lst pa_nil) (nomark _)) (pe_and (pe_or (pe_ix (ix_tupK (K := K) rfl) (pv 0) pe_int (fun _ _ => rfl)) (pe_one (pe_not (pe_ix (ix_tupK (K := K) rfl) (pv 1) pe_int (fun _ _ => rfl))))) (pe_one (pe_cmpR op_in_seq (pe_ix (ix_tupK (K := K) rfl) (pv 0) pe_int (fun _ _ => rfl)) (pe_tup (pa_cons (pe_ix (ix_tupK (K := K) rfl) (pv 1) pe_int (fun _ _ => rfl)) (pa_cons pe_str pa_nil))) (by rfl)))))))), ?_⟩
    refine ⟨sz3, fun t nt => ⟨t, rfl, ⟨_, SqT.of upd_same⟩, fun d nd => ?_⟩⟩
    have x1 := Ex.new (o := .tup [.int 2, .int 3, .int 4]) nt
    have ht : upd H t (.tup [.int 2, .int 3, .int 4]) t = some (.tup [.int 2, .int 3, .int 4]) := upd_same
    have ha1 := ha.to x1
    have hb1 := hb.to x1
    generalize upd H t (.tup [.int 2, .int 3, .int 4]) = H1 at x1 ht ha1 hb1 nd ⊢
    refine lc_tup (xs := [.int 2, .int 3, .int 4]) (fun j H' => Ex H1 H' ∧ H' d = some (.lst ((moreF ((rowsF (F.f && !G.f) (F.b && !G.b) (F.e && !G.e)).take j)).map V.int))) ?_ (fun j H' _ z => SqT.of (z.1 _ _ ht)) ?_ ?_
    · exact ⟨Ex.new nd, upd_same⟩
    · rintro j x H' hj ⟨e2, hd⟩
      obtain ⟨i, bF, bG, rfl, hF, hG, hr⟩ : ∃ i bF bG, x = V.int i ∧ atI F.vs i = some (.bl bF) ∧ atI G.vs i = some (.bl bG) ∧ (rowsF (F.f && !G.f) (F.b && !G.b) (F.e && !G.e))[j]? = some (i, bF && !bG) := by
        match j, hj with
        | 0, h => cases h; exact ⟨2, _, _, rfl, rfl, rfl, rfl⟩
        | 1, h => cases h; exact ⟨3, _, _, rfl, rfl, rfl, rfl⟩
        | 2, h => cases h; exact ⟨4, _, _, rfl, rfl, rfl, rfl⟩
        | n + 3, h => cases h
      have jl : j < 3 := (List.getElem?_eq_some_iff.mp hr).1
      rw [moreF_take hr]
      have sz : ((moreF ((rowsF (F.f && !G.f) (F.b && !G.b) (F.e && !G.e)).take j)).map V.int).length < sizeLine := by
        rw [List.length_map]
        refine Nat.lt_of_le_of_lt (List.length_filterMap_le _ _) ?_
        rw [List.length_take]
        exact Nat.lt_of_le_of_lt (Nat.min_le_left _ _) (Nat.lt_trans jl (by decide))
      refine ⟨rfl, _, rfl, _, rfl, a, F.vs, i, .bl bF, rfl, rfl, SqT.of (e2 _ _ ha1), hF, bF, rfl, ?_⟩
      cases bF with
      | false => exact if_f rfl (if_f rfl ⟨e2, by rw [hd]; simp⟩)
      | true =>
        refine if_t rfl ⟨_, rfl, _, rfl, b, G.vs, i, .bl bG, rfl, rfl, SqT.of (e2 _ _ hb1), hG, bG, rfl, ?_⟩
        cases bG with
        | true => exact if_f rfl ⟨e2, by rw [hd]; simp⟩
        | false => exact if_t rfl ⟨_, rfl, _, hd, sz, e2.mut nd, by rw [upd_same, List.map_append]; rfl⟩
    · rintro H' ⟨e2, hd⟩
      rw [show ([V.int 2, V.int 3, V.int 4] : List V).length = (rowsF (F.f && !G.f) (F.b && !G.b) (F.e && !G.e)).length from rfl, List.take_length] at hd
      have k1 : ∀ H2, Ex H' H2 → Q (.bl (within F G)) H2 := fun H2 e => k H2 (x1.trans (e2.trans e))
      have ha2 := ha1.to e2
      have hb2 := hb1.to e2
      refine ⟨_, rfl, by decide, fun n nn => ?_⟩
      have x3 := Ex.new (o := .lst []) nn
      have hn : upd H' n (.lst []) n = some (.lst []) := upd_same
      have hd3 := x3 _ _ hd
      have ha3 := ha2.to x3
      have hb3 := hb2.to x3
      have k3 : ∀ H2, Ex (upd H' n (.lst [])) H2 → Q (.bl (within F G)) H2 := fun H2 e => k1 H2 (x3.trans e)
      generalize upd H' n (.lst []) = H3 at hn hd3 ha3 hb3 k3 ⊢
      refine ⟨_, _, .lst (SqL.of hd3) (dp_ints _), .lst (SqL.of hn) .nil, moreF_ok .., by decide, ?_⟩
      rw [moreF_eqv]
      rw [within_eq] at k3
      refine ⟨_, rfl, ?_⟩
      generalize (!(F.f && !G.f) && !(F.b && !G.b) && !(F.e && !G.e)) = c at k3 ⊢
      have last : (F.u || !G.u) = true → c = true → tOp (rIn K false) (tOp (rIxT K) (tVar 0) (tC (V.int 0))) (tTup (tCons (tOp (rIxT K) (tVar 1) (tC (V.int 0))) (tCons (tC (V.str "text")) tNil))) (List.set (L2.start ["_law_one_here", "_law_other", "_law_more", "_law_at"] [V.ref a, V.ref b]) 2 (some (V.ref d))) H3 Q := fun hu hc => by
        refine ⟨_, rfl, a, F.vs, 0, .str F.m, rfl, rfl, SqT.of ha3, rfl, _, rfl, b, G.vs, 0, .str G.m, rfl, rfl, SqT.of hb3, rfl, sz2, fun tt ntt => ⟨tt, _, rfl, .inr (SqT.of upd_same), rfl, rfl, ?_⟩⟩
        rw [if_neg Bool.false_ne_true]
        have e1 : inV (.str F.m) [.str G.m, .str "text"] = decide (F.m = G.m ∨ F.m = "text") := by
          rw [show [V.str G.m, .str "text"] = ([G.m, ("text" : Str)]).map V.str from rfl, inV_strs]
          simp
        rw [e1]
        have := k3 _ (Ex.new (o := .tup [.str G.m, .str "text"]) ntt)
        rw [hu, hc, Bool.true_and, Bool.true_and] at this
        exact this
      cases c with
      | false => exact if_f rfl (k3 H3 (Ex.refl H3))
      | true =>
        refine if_t rfl ⟨_, rfl, a, F.vs, 1, .bl F.u, rfl, rfl, SqT.of ha3, rfl, F.u, rfl, ?_⟩
        cases hu : F.u with
        | true => exact if_t rfl ⟨_, rfl, if_t rfl (last (by rw [hu]; rfl) rfl)⟩
        | false =>
          refine if_f rfl ⟨_, rfl, b, G.vs, 1, .bl G.u, rfl, rfl, SqT.of hb3, rfl, G.u, rfl, ?_⟩
          cases hg : G.u with
          | false => exact ⟨_, rfl, if_t rfl (last (by rw [hg]; simp) rfl)⟩
          | true =>
            rw [hu, hg] at k3
            exact ⟨_, rfl, if_f rfl (k3 H3 (Ex.refl H3))⟩
end
end K41

set_option Elab.async false
set_option linter.all false
set_option maxRecDepth 100000
set_option maxHeartbeats 4000000
namespace K41
open PySem PySem.Spec PyProof.Rows L2 Evl Gx
abbrev s_l_every_face : Stmt := topS 19
theorem sc_l_every_face : FnScope ["_law_found", "_law_mode", "_law_number", "_law_at"] [] (defScope s_l_every_face) := ⟨rfl, rfl, rfl, by decide +kernel, rfl, by decide +kernel, by decide +kernel⟩
def bitB (n j : Nat) : Bool := decide ((((0 : Int) + (n : Nat)) / 2 ^ ((3 - ((0 : Int) + (j : Nat))).toNat)) % 2 = 1)
def bitsB (n : Nat) : List Bool := [bitB n 0, bitB n 1, bitB n 2, bitB n 3]
theorem bitsB_ok : ∀ n, n < 16 → (blists 4)[n]? = some (bitsB n) := by decide
section
variable {P : Program} {w : World} {K : PySem.W.Frag} {mg : Str → Option Value} {base : Heap}
theorem ok_l_every_face {f : Addr} {fd : FuncData} (D : Def K mg "_law_every_face" s_l_every_face f fd []) (bi : Bi mg) :
    FnOk P w K mg base CX0 1 f fd [] (spEvery K) := by
  refine D.fn.ok sc_l_every_face (fun vs H Q E h => ?_) (fun cdv A outer s0 H vs Q E hr h => ?_)
  · obtain ⟨rfl, _⟩ := h
    rfl
  · obtain ⟨rfl, k⟩ := h
    refine ⟨_, (pss_cons (ps_set (i := 0) sc_l_every_face.nd rfl (Or.inl rfl) (pe_lst pa_nil))
  (pss_cons (ps_for PassesOwn.never rfl (pi_tup (pe_tup (pa_cons pe_str (pa_cons pe_str (pa_cons pe_str pa_nil))))) (pg_name (i := 1) sc_l_every_face.nd rfl (Or.inl rfl))
    (pss_one (ps_for PassesOwn.never rfl (pi_range1 rfl bi.range (pa_cons pe_int pa_nil)) (pg_name (i := 2) sc_l_every_face.nd rfl (Or.inr rfl))
      (pss_one (ps_expr (pe_bm PySem.F.plainAttrs_list PySem.F.slot_list_append PySem.F.type_list_append mt_append (pv 0) (pa_cons (pe_op op_catA (pe_tup (pa_cons (pv 1) pa_nil)) (pe_callTy call_tupX (by rfl) bi.tuple bt_tuple (pa_cons (pe_lc (own := [("_law_at", 3)]) rfl sc_l_every_face.nd (pi_range1 rfl bi.range (pa_cons pe_int pa_nil)) (blkOk_by (N := ["_law_found", "_law_mode", "_law_number", "_law_at"]) (sc := defScope s_l_every_face) (by decide +kernel)) (fun _ _ _ _ _ => (pg_name (i := 3) sc_l_every_face.nd rfl (Or.inl rfl))) (fun _ _ _ _ _ => pts_nil) (fun _ _ _ _ _ => (pe_cmpR op_eq (pe_op op_mod (pe_callTy call_int1 (by rfl) bi.int bt_int (pa_cons (pe_op op_shr (pv 2) (pe_op op_sub pe_int (pv 3))) pa_nil)) pe_int) pe_int (nomark _)))) pa_nil))) pa_nil)))))))
  (pss_one (ps_ret (pv 0))))), ?_⟩
    refine ⟨by decide, fun l nl => ?_⟩
    have x1 := Ex.new (o := .lst []) nl
    have hl1 : upd H l (.lst []) l = some (.lst []) := upd_same
    generalize upd H l (.lst []) = H1 at x1 hl1 ⊢
    refine ⟨sz3, fun t nt => ?_⟩
    have x2 := Ex.new (o := .tup [.str "every", .str "free", .str "text"]) nt
    have ht : upd H1 t (.tup [.str "every", .str "free", .str "text"]) t = some (.tup [.str "every", .str "free", .str "text"]) := upd_same
    have hl2 := x2 _ _ hl1
    generalize upd H1 t (.tup [.str "every", .str "free", .str "text"]) = H2 at x2 ht hl2 ⊢
    refine ⟨t, rfl, ⟨_, SqT.of ht⟩, for_tup (xs := modes.map V.str) (fun i σ H' => ∃ (y1 y2 y3 : Option V) (ts : List Addr), σ = [some (.ref l), y1, y2, y3] ∧ ExI H2 H' ∧ Ex H H' ∧ H' l = some (.lst (ts.map V.ref)) ∧ Paired (FaceAt H') ts ((modes.take i).flatMap fun m => (blists 4).map (faceOf m))) ?_ (fun i σ H' _ p => by obtain ⟨_, _, _, _, _, q, _⟩ := p; exact q.sq (SqT.of ht)) ?_ ?_⟩
    · exact ⟨_, _, _, [], rfl, ExI.of (Ex.refl _), x1.trans x2, hl2, .nil⟩
    · rintro i z σ H3 hi ⟨y1, y2, y3, ts, rfl, xi, x3, hl, hts⟩
      obtain ⟨m, rfl, hm⟩ : ∃ m, z = V.str m ∧ modes[i]? = some m := by
        rw [List.getElem?_map] at hi
        obtain ⟨r, h1, h2⟩ := Option.map_eq_some_iff.mp hi
        exact ⟨r, h2.symm, h1⟩
      have il : i < 3 := (List.getElem?_eq_some_iff.mp hm).1
      refine ⟨16, rfl, by decide, by decide, for_range (n := 16) (fun c σ H' => ∃ (y2 y3 : Option V) (ts : List Addr), σ = [some (.ref l), some (.str m), y2, y3] ∧ ExI H3 H' ∧ Ex H H' ∧ H' l = some (.lst (ts.map V.ref)) ∧ Paired (FaceAt H') ts (((modes.take i).flatMap fun m => (blists 4).map (faceOf m)) ++ ((blists 4).map (faceOf m)).take c)) ?_ ?_ ?_⟩
      · exact ⟨_, _, ts, rfl, ExI.of (Ex.refl _), x3, hl, by rw [List.take_zero, List.append_nil]; exact hts⟩
      · rintro c σ H4 hc ⟨y2, y3, ts4, rfl, xi4, x4, hl4, hts4⟩
        have hc16 : c < 16 := hc
        refine ⟨_, rfl, .inl ⟨rfl, _, SqL.of hl4⟩, _, rfl, sz1, fun q nq => ?_⟩
        have x5 := Ex.new (o := .tup [.str m]) nq
        have hq : upd H4 q (.tup [.str m]) q = some (.tup [.str m]) := upd_same
        have hl5 := x5 _ _ hl4
        generalize upd H4 q (.tup [.str m]) = H5 at x5 hq hl5 ⊢
        refine ⟨4, rfl, by decide, by decide, fun D nD => lc_range (lo := 0) (n := 4) (fun j H' => Ex H5 H' ∧ H' D = some (.lst (((bitsB c).take j).map V.bl))) ?_ ?_ ?_⟩
        · exact ⟨Ex.new nD, upd_same⟩
        · rintro j H6 hj ⟨x6, hD⟩
          have hb : (bitsB c)[j]? = some (bitB c j) := by
            match j, hj with
            | 0, _ => rfl
            | 1, _ => rfl
            | 2, _ => rfl
            | 3, _ => rfl
          have eb : decide (V.int ((((0 : Int) + (c : Nat)) / 2 ^ ((3 - ((0 : Int) + (j : Nat))).toNat)) % 2) = V.int 1) = bitB c j := by
            unfold bitB
            rw [decide_eq_decide]
            exact ⟨V.int.inj, congrArg V.int⟩
          refine ⟨rfl, _, rfl, _, rfl, 3, 0 + (j : Nat), rfl, rfl, _, _, rfl, rfl, by omega, .inl ⟨_, rfl, _, _, rfl, rfl, (show (0 : Int) < 2 from by decide), rfl, ?_⟩⟩
          rw [eb]
          refine ⟨_, hD, ?_, x6.mut nD, by rw [upd_same, takeS hb, List.map_append]; rfl⟩
          rw [List.length_map, List.length_take]
          exact Nat.lt_of_le_of_lt (Nat.min_le_left _ _) (Nat.lt_trans hj (by decide))
        · rintro H6 ⟨x6, hD⟩
          refine ⟨D, _, rfl, SqL.of hD, fun t2 H7 n2 e7 ht2 => ⟨q, t2, _, _, rfl, rfl, SqT.of (e7 _ _ (x6 _ _ hq)), ht2.sq, (by rw [List.length_map, List.length_take]; exact Nat.le_trans (Nat.add_le_add_left (Nat.min_le_left _ _) _) (show 1 + 4 ≤ sizeLine from by decide)), fun h => (by cases h), fun _ h => absurd h (by unfold bitsB; exact fun h => by cases h), fun _ _ p np => ?_⟩⟩
          have x8 := x5.trans (x6.trans (e7.trans (Ex.new (o := .tup ([V.str m] ++ ((bitsB c).take 4).map V.bl)) np)))
          have hp : upd H7 p (.tup ([V.str m] ++ ((bitsB c).take 4).map V.bl)) p = some (.tup ([V.str m] ++ ((bitsB c).take 4).map V.bl)) := upd_same
          have hl8 := x8 _ _ hl4
          generalize upd H7 p (.tup ([V.str m] ++ ((bitsB c).take 4).map V.bl)) = H8 at x8 hp hl8 ⊢
          have tl : ts4.length ≤ 100 := by
            have h := Paired.length hts4
            rw [List.length_append, List.length_take] at h
            have h1 : ∀ j < 3, ((modes.take j).flatMap fun m => (blists 4).map (faceOf m)).length ≤ 48 := by decide
            have := h1 i il
            omega
          have ei : ExI H8 (upd H8 l (.lst (ts4.map V.ref ++ [.ref p]))) := ExI.put hl8 rfl
          have hfc : ((blists 4).map (faceOf m))[c]? = some (faceOf m (bitsB c)) := by rw [List.getElem?_map, bitsB_ok c hc16]; rfl
          refine ⟨l, _, _, rfl, rfl, hl8, by rw [List.length_map]; exact Nat.lt_of_le_of_lt tl (by decide), _, _, ts4 ++ [p], rfl, (xi4.trans (ExI.of x8)).trans ei, (x4.trans x8).mut nl, by rw [upd_same, List.map_append]; rfl, ?_⟩
          rw [takeS hfc, ← List.append_assoc]
          refine paired_app (L2.Paired.mapP hts4 fun a F h => ei _ _ (x8 _ _ h) rfl) (.cons (ei _ _ ?_ rfl) .nil)
          exact hp
      · rintro σ H' ⟨y2, y3, ts4, rfl, xi4, x4, hl4, hts4⟩
        refine ⟨_, _, _, ts4, rfl, xi.trans xi4, x4, hl4, ?_⟩
        rw [flatMap_take hm]
        have e16 : (16 : Nat) = ((blists 4).map (faceOf m)).length := rfl
        rw [e16, List.take_length] at hts4
        exact hts4
    · rintro σ H' ⟨y1, y2, y3, ts, rfl, xi, x3, hl, hts⟩
      have e : (modes.map V.str).length = modes.length := List.length_map ..
      rw [e, List.take_length] at hts
      exact ⟨_, rfl, k l ts H' x3 nl hl hts⟩
end
end K41

set_option Elab.async false
set_option linter.all false
set_option maxRecDepth 100000
set_option maxHeartbeats 400000
/-! a method that may raise, called within a try -/
namespace Gx
open PySem PySem.Spec PyProof.Rows L2 Evl
def tMethE (C : Addr) (m : Str) (sp : Sp) (E : L2.St → XK) (ta : TE) (t : TA) : TE := fun σ H Q =>
  ta σ H fun x H1 => ∃ (a dx : Addr) (fs : List (Str × V)), x = .ref a ∧ H1 a = some (.ins C dx fs) ∧ List.lookup m fs = none ∧ t σ H1 fun vs H2 => sp (x :: vs) H2 Q (E σ)
theorem pe_methE {X : Cx} {CX : CXT} {k : Nat} {f C : Addr} {fd : FuncData} {ps : List Str} {sp : Sp} {E : L2.St → XK} {m : Str} {pos apos : Pos} {e o : Expr} {es : List Expr} {ta : TE} {t : TA} {pl : Sem Bool}
    (ho : PE X o ta) (c : Cls X.K C) (hm : Meth X.K C m f) (F : FnOk X.prog X.w X.K X.mg X.base CX k f fd ps sp) (hr : Room k X.A) (hb : L2.Binds X.K fd ps []) (hx : ∀ σ, PassesAt CX X σ (E σ)) (ha : PA X (e :: es) t)
    (h1 : starEach (e :: es) X.env = (false, eval e X.env) :: starEach es X.env := by rfl) (h2 : ((backTo pos (starEach es X.env)).any fun x => x.fst) = false := by rfl)
    (h3 : eval ((o.Attribute m apos).Call (e :: es) [] pos) X.env = (do
      let ov ← eval o X.env
      standAt apos.atName
      let __x ← holding [ov] (getMethod ov m pl)
      match __x with
        | (f, first) => callWith pos f first (backTo pos (starEach (e :: es) X.env)) (backToKw pos (keywordEach [] X.env))) := by rfl) :
    PE X (.Call (.Attribute o m apos) (e :: es) [] pos) (tMethE C m sp E ta t) := by
  constructor
  intro pins s σ H Q I h
  refine PySem.W.methodCall_KW (pl := pl) (thn (ho.run pins s σ H _ I h) fun v s1 q => ?_) h3
  obtain ⟨x, H1, I1, rx, a, dx, fs, rfl, hi, hl, q⟩ := q
  cases rx
  refine getmeth_ok I1 hi c hm hl ?_
  refine PySem.W.callWith_K I1.ok.mod.kin hm.kp (thn (ha.run pos pins s1 σ H1 _ I1 q) fun us s2 q => ?_) h1 h2
  obtain ⟨vs, H2, I2, rv, q⟩ := q
  exact ⟨I2.kIn, run_fnS F hr hb (hx σ) I2 (.cons (show RelV (.ref a) (.ref a) from rfl) rv) q⟩
end Gx

set_option Elab.async false
set_option linter.all false
set_option maxRecDepth 100000
set_option maxHeartbeats 4000000
namespace K41
open PySem PySem.Spec PyProof.Rows L2 Evl Gx
abbrev s_l_tried : Stmt := topS 21
theorem sc_l_tried : FnScope ["_law_way", "_law_planner", "_law_some", "e"] ["_law_way", "_law_planner", "_law_some"] (defScope s_l_tried) := ⟨rfl, rfl, rfl, by decide +kernel, rfl, by decide +kernel, by decide +kernel⟩
/-- the class above all errors, and another one -/
structure Errs2 (K : PySem.W.Frag) (mg : Str → Option Value) (x : Str) (CA : Addr) : Prop where
  gC : mg x = some (.ref CA)
abbrev Res := Face ⊕ Nat
def ResAt (H : Hp) (a : Addr) : Res → Prop
  | .inl G => ∃ t, H a = some (.tup [.str "made", .ref t]) ∧ FaceAt H t G
  | .inr j => H a = some (.tup [.str "wrong", .int (j : Nat)])
def outc0 : List V → Option Res
  | [m, x1, x2, x3, x4] => match badAt m [x1, x2, x3, x4] with
    | some j => some (.inr j)
    | none => (faceV m x1 x2 x3 x4).map .inl
  | _ => none
def outc1 (F : Face) : V → Option Res
  | .str s => if s ∈ modes then some (.inl { F with m := s }) else some (.inr 0)
  | _ => some (.inr 0)
def outc2 (F : Face) : V → V → Option Res
  | .str s, .bl c => if s ∈ truthsL then some (.inl (F.put s c)) else some (.inr 0)
  | .str s, _ => if s ∈ truthsL then some (.inr 1) else some (.inr 0)
  | _, _ => some (.inr 0)
def outc (way : Int) (F : Face) (xs : List V) : Option Res := if way = 0 then outc0 xs else if way = 1 then (match xs with | m :: _ => outc1 F m | _ => none) else (match xs with | [x, y] => outc2 F x y | _ => none)
theorem oc0j {F : Face} {m x1 x2 x3 x4 : V} {j : Nat} (h : badAt m [x1, x2, x3, x4] = some j) : outc 0 F [m, x1, x2, x3, x4] = some (.inr j) := by
  show (match badAt m [x1, x2, x3, x4] with | some j => some (Sum.inr j) | none => (faceV m x1 x2 x3 x4).map Sum.inl) = _
  rw [h]
theorem oc0g {F G : Face} {m x1 x2 x3 x4 : V} (h : badAt m [x1, x2, x3, x4] = none) (g : faceV m x1 x2 x3 x4 = some G) : outc 0 F [m, x1, x2, x3, x4] = some (.inl G) := by
  show (match badAt m [x1, x2, x3, x4] with | some j => some (Sum.inr j) | none => (faceV m x1 x2 x3 x4).map Sum.inl) = _
  rw [h]
  show (faceV m x1 x2 x3 x4).map Sum.inl = _
  rw [g]; rfl
theorem oc1 {F : Face} {m : V} {xs : List V} : outc 1 F (m :: xs) = outc1 F m := rfl
theorem oc2 {F : Face} {x y : V} : outc 2 F [x, y] = outc2 F x y := rfl
def spTried (K : PySem.W.Frag) (C : Addr) : Sp := fun vs H Q _ => ∃ (way : Int) (p s : Addr) (F : Face) (xs : List V), vs = [.int way, .ref p, .ref s] ∧ PlnAt C H p F ∧ F.m ∈ modes ∧ H s = some (.lst xs) ∧ (∀ x ∈ xs, Tells K H x) ∧
  (way = 0 ∧ xs.length = 5 ∨ way = 1 ∧ xs.length = 5 ∨ way = 2 ∧ xs.length = 2) ∧ ∀ r, outc way F xs = some r → ∀ a H', Ex H H' → ResAt H' a r → Q (.ref a) H'
section
variable {P : Program} {w : World} {K : PySem.W.Frag} {mg : Str → Option Value} {base : Heap} {C CW CA CE fW f_l_faces f_l_made fI p_with_mode p_with_truth : Addr} {fdW fd_l_faces fd_l_made fdI fd_with_mode fd_with_truth : FuncData}
theorem ok_l_tried {f : Addr} {fd : FuncData} (D : Def K mg "_law_tried" s_l_tried f fd ["_law_way", "_law_planner", "_law_some"]) (bi : Bi mg) (T_Planner : PlannerT K mg C fI)
    (e_Wrong : Err K mg "Wrong" "Wrong.__init__" "place" ["self", "place"] s_Wrong___init CW fW fdW)
    (e_AskError : Errs2 K mg "AskError" CA) (te : PySem.W.exmOne K (.ref CW) (.ref CA) = some true)
    (e_Errs : Errs2 K mg "Errs" CE) (ko : PySem.W.kitOne K (.ref CW) (.ref CE) = some false) (xc : ExcC K CW)
    (D_l_faces : Def K mg "_law_faces" s_l_faces f_l_faces fd_l_faces ["_law_planner"])
    (G_l_faces : FnOk P w K mg base CX0 4 f_l_faces fd_l_faces ["_law_planner"] (spFaces C))
    (D_l_made : Def K mg "_law_made" s_l_made f_l_made fd_l_made ["_law_face"])
    (G_l_made : FnOk P w K mg base (L2.CX P w) 5 f_l_made fd_l_made ["_law_face"] (spMade K C CW))
    (D_Planner_with_mode : MDef K C "with_mode" "Planner.with_mode" s_Planner_with_mode p_with_mode fd_with_mode ["self", "mode"])
    (G_Planner_with_mode : FnOk P w K mg base (L2.CX P w) 6 p_with_mode fd_with_mode ["self", "mode"] (spWithMode K C CW))
    (D_Planner_with_truth : MDef K C "with_truth" "Planner.with_truth" s_Planner_with_truth p_with_truth fd_with_truth ["self", "word", "truth"])
    (G_Planner_with_truth : FnOk P w K mg base (L2.CX P w) 6 p_with_truth fd_with_truth ["self", "word", "truth"] (spWithTruth K C CW)) :
    FnOk P w K mg base CX0 8 f fd ["_law_way", "_law_planner", "_law_some"] (spTried K C) := by
  refine D.fn.ok sc_l_tried (fun vs H Q E h => ?_) (fun cdv A outer s0 H vs Q E hr h => ?_)
  · obtain ⟨way, p, s, F, xs, rfl, _⟩ := h
    rfl
  · obtain ⟨way, p, s, F, xs, rfl, hp, hm, hs, tl, hw, k⟩ := h
    refine ⟨_, (pss_one (ps_try_fst (ts := _) rfl rfl sc_l_tried.nd (i := 3) rfl rfl ⟨rfl, by decide, .inl e_AskError.gC⟩ (fun W pn xe tk _ =>
    (pss_cons (ps_if (pt_cmpR op_eq (pv 0) pe_int (nomark _))
      (pss_one (ps_ret (pe_tup (pa_cons pe_str (pa_cons (pe_call G_l_faces (hr.mono (by first | decide | omega)) rfl D_l_faces.mg D_l_faces.fn.kp D_l_faces.bd .nil pass0 (pa_cons (pe_callS G_l_made (hr.mono (by first | decide | omega)) rfl D_l_made.mg D_l_made.fn.kp D_l_made.bd (fun σ => passAt tk σ) (pa_cons (pv 2) pa_nil)) pa_nil)) pa_nil)))))
      pss_nil)
    (pss_cons (ps_if (pt_cmpR op_eq (pv 0) pe_int (nomark _))
      (pss_one (ps_ret (pe_tup (pa_cons pe_str (pa_cons (pe_call G_l_faces (hr.mono (by first | decide | omega)) rfl D_l_faces.mg D_l_faces.fn.kp D_l_faces.bd .nil pass0 (pa_cons (pe_methE (pv 1) T_Planner.cl D_Planner_with_mode.mt G_Planner_with_mode (hr.mono (by first | decide | omega)) D_Planner_with_mode.bd (fun σ => passAt tk σ) (pa_cons (pe_ix (ix_listK (K := K) rfl) (pv 2) pe_int (fun _ _ => rfl)) pa_nil)) pa_nil)) pa_nil)))))
      pss_nil)
    (pss_one (ps_ret (pe_tup (pa_cons pe_str (pa_cons (pe_call G_l_faces (hr.mono (by first | decide | omega)) rfl D_l_faces.mg D_l_faces.fn.kp D_l_faces.bd .nil pass0 (pa_cons (pe_methE (pv 1) T_Planner.cl D_Planner_with_truth.mt G_Planner_with_truth (hr.mono (by first | decide | omega)) D_Planner_with_truth.bd (fun σ => passAt tk σ) (pa_cons (pe_ix (ix_listK (K := K) rfl) (pv 2) pe_int (fun _ _ => rfl)) (pa_cons (pe_ix (ix_listK (K := K) rfl) (pv 2) pe_int (fun _ _ => rfl)) pa_nil))) pa_nil)) pa_nil)))))))) (fun a oe cls d pn hz hf =>
    (pss_one (ps_ret (pe_ifExp (L2.PW.pt (pw_and (pt_val (pe_callB (call_isEd hz hf) (by rfl) bi.isinstance bt_isinstance (pa_cons (pv 3) (pa_cons (pe_glob (v := .ref CW) rfl e_Wrong.gC rfl) pa_nil)))) (pw_and1 (pt_not (pt_val (pe_callB (call_isEd hz hf) (by rfl) bi.isinstance bt_isinstance (pa_cons (pv 3) (pa_cons (pe_glob (v := .ref CE) rfl e_Errs.gC rfl) pa_nil)))))))) (pe_tup (pa_cons pe_str (pa_cons (pe_xf e_Wrong.xf e_Wrong.no hz hf (pv 3)) pa_nil))) (pe_tup (pa_cons pe_str (pa_cons pe_non pa_nil))))))))), ?_⟩
    have wrong : ∀ j : Nat, outc way F xs = some (.inr j) → ∀ (t : Addr) (H' : Hp), Ex H H' → H' t = none → Q (.ref t) (upd H' t (.tup [.str "wrong", .int (j : Nat)])) := fun j e t H' ex nt => k _ e t _ (ex.trans (Ex.new nt)) upd_same
    have made : ∀ G, outc way F xs = some (.inl G) → ∀ (t a : Addr) (H' : Hp), Ex H H' → FaceAt H' t G → H' a = none → Q (.ref a) (upd H' a (.tup [.str "made", .ref t])) := fun G e t a H' ex ht na => k _ e a _ (ex.trans (Ex.new na)) ⟨t, upd_same, ht.to (Ex.new na)⟩
    refine ⟨_, rfl, rfl, _, rfl, if_d (fun h0 => ?_) (fun h0 => ?_)⟩
    · have h0 : way = 0 := V.int.inj h0
      subst h0
      have l5 : xs.length = 5 := by rcases hw with ⟨_, h⟩ | ⟨h, _⟩ | ⟨h, _⟩ <;> first | exact h | omega
      obtain ⟨m, x1, x2, x3, x4, rfl⟩ : ∃ m x1 x2 x3 x4, xs = [m, x1, x2, x3, x4] := by
        match xs, l5 with
        | [m, x1, x2, x3, x4], _ => exact ⟨m, x1, x2, x3, x4, rfl⟩
      refine ⟨_, rfl, s, m, x1, x2, x3, x4, rfl, .inr hs, tl, fun G hb hf hG q H1 e1 nq hq => ⟨q, G, rfl, hq, fun t H2 e2 ht => ⟨sz2, fun a na => ?_⟩⟩, fun j hj d H' ex hd => ?_⟩
      · exact made G (oc0g hb hf) t a H2 (e1.trans e2) ht na
      · have oj : outc 0 F [m, x1, x2, x3, x4] = some (.inr j) := oc0j hj
        exact ⟨te, fun x nx => ⟨_, rfl, .ref CW, .ref CW, true, CW, d, _, rfl, fun u h => h, rfl, rfl, xc, ko_self, hd, true, rfl, if_t rfl ⟨_, rfl, .ref CE, .ref CE, false, CW, d, _, rfl, fun u h => h, rfl, rfl, xc, ko, hd, false, rfl, if_t rfl ⟨_, rfl, rfl, rfl, d, _, .int (j : Nat), rfl, hd, rfl, sz2, fun t nt => wrong j oj t H' ex nt⟩⟩⟩⟩
    · refine ⟨_, rfl, rfl, _, rfl, if_d (fun h1 => ?_) (fun h1 => ?_)⟩
      · have h1 : way = 1 := V.int.inj h1
        subst h1
        have l5 : xs.length = 5 := by rcases hw with ⟨h, _⟩ | ⟨_, h⟩ | ⟨h, _⟩ <;> first | exact h | omega
        obtain ⟨m, x1, x2, x3, x4, rfl⟩ : ∃ m x1 x2 x3 x4, xs = [m, x1, x2, x3, x4] := by
          match xs, l5 with
          | [m, x1, x2, x3, x4], _ => exact ⟨m, x1, x2, x3, x4, rfl⟩
        obtain ⟨dx, tt, g1, g2⟩ := hp
        refine ⟨_, rfl, p, dx, _, rfl, g1, rfl, _, rfl, s, _, 0, m, rfl, rfl, SqL.of hs, rfl, p, F, m, rfl, ⟨dx, tt, g1, g2⟩, hm, tl m List.mem_cons_self, fun z hz hz2 q H1 e1 hq => ⟨q, _, rfl, hq, fun t H2 e2 ht => ⟨sz2, fun a na => ?_⟩⟩, fun ho d H' ex hd => ?_⟩
        · subst hz
          exact made _ (by rw [oc1]; show (if z ∈ modes then _ else _) = _; rw [if_pos hz2]) t a H2 (e1.trans e2) ht na
        · have oj : outc 1 F [m, x1, x2, x3, x4] = some (.inr 0) := by
            rw [oc1]
            cases m with
            | str z => show (if z ∈ modes then _ else _) = _; rw [if_neg (of_decide_eq_false ho)]
            | _ => rfl
          exact ⟨te, fun x nx => ⟨_, rfl, .ref CW, .ref CW, true, CW, d, _, rfl, fun u h => h, rfl, rfl, xc, ko_self, hd, true, rfl, if_t rfl ⟨_, rfl, .ref CE, .ref CE, false, CW, d, _, rfl, fun u h => h, rfl, rfl, xc, ko, hd, false, rfl, if_t rfl ⟨_, rfl, rfl, rfl, d, _, .int (0 : Nat), rfl, hd, rfl, sz2, fun t nt => wrong 0 oj t H' ex nt⟩⟩⟩⟩
      · have h2 : way = 2 := by
          rcases hw with ⟨h, _⟩ | ⟨h, _⟩ | ⟨h, _⟩
          · exact absurd (congrArg V.int h) h0
          · exact absurd (congrArg V.int h) h1
          · exact h
        subst h2
        have l2 : xs.length = 2 := by rcases hw with ⟨h, _⟩ | ⟨h, _⟩ | ⟨_, h⟩ <;> first | exact h | omega
        obtain ⟨x, y, rfl⟩ : ∃ x y, xs = [x, y] := by
          match xs, l2 with
          | [x, y], _ => exact ⟨x, y, rfl⟩
        obtain ⟨dx, tt, g1, g2⟩ := hp
        have tl0 := tl x (by simp)
        have tl1 := tl y (by simp)
        refine ⟨_, rfl, p, dx, _, rfl, g1, rfl, _, rfl, s, _, 0, x, rfl, rfl, SqL.of hs, rfl, _, rfl, s, _, 1, y, rfl, rfl, SqL.of hs, rfl, p, F, x, y, rfl, ⟨dx, tt, g1, g2⟩, hm, tl0, tl1, fun z c hz hz2 hc q H1 e1 hq => ⟨q, _, rfl, hq, fun t H2 e2 ht => ⟨sz2, fun a na => ?_⟩⟩, fun ho d H' ex hd => ?_, fun ho hb d H' ex hd => ?_⟩
        · subst hz; subst hc
          exact made _ (by rw [oc2]; show (if z ∈ truthsL then _ else _) = _; rw [if_pos hz2]) t a H2 (e1.trans e2) ht na
        · have oj : outc 2 F [x, y] = some (.inr 0) := by
            rw [oc2]
            cases x with
            | str z =>
              have hn : ¬ z ∈ truthsL := of_decide_eq_false ho
              cases y <;> (show (if z ∈ truthsL then _ else _) = _; rw [if_neg hn])
            | _ => rfl
          exact ⟨te, fun x nx => ⟨_, rfl, .ref CW, .ref CW, true, CW, d, _, rfl, fun u h => h, rfl, rfl, xc, ko_self, hd, true, rfl, if_t rfl ⟨_, rfl, .ref CE, .ref CE, false, CW, d, _, rfl, fun u h => h, rfl, rfl, xc, ko, hd, false, rfl, if_t rfl ⟨_, rfl, rfl, rfl, d, _, .int (0 : Nat), rfl, hd, rfl, sz2, fun t nt => wrong 0 oj t H' ex nt⟩⟩⟩⟩
        · have oj : outc 2 F [x, y] = some (.inr 1) := by
            rw [oc2]
            cases x with
            | str z =>
              have hn : z ∈ truthsL := of_decide_eq_true ho
              cases y with
              | bl c => exact absurd hb Bool.noConfusion
              | _ => show (if z ∈ truthsL then _ else _) = _; rw [if_pos hn]
            | _ => exact absurd ho Bool.noConfusion
          exact ⟨te, fun x nx => ⟨_, rfl, .ref CW, .ref CW, true, CW, d, _, rfl, fun u h => h, rfl, rfl, xc, ko_self, hd, true, rfl, if_t rfl ⟨_, rfl, .ref CE, .ref CE, false, CW, d, _, rfl, fun u h => h, rfl, rfl, xc, ko, hd, false, rfl, if_t rfl ⟨_, rfl, rfl, rfl, d, _, .int (1 : Nat), rfl, hd, rfl, sz2, fun t nt => wrong 1 oj t H' ex nt⟩⟩⟩⟩
end
end K41

set_option Elab.async false
set_option linter.all false
set_option maxRecDepth 100000
set_option maxHeartbeats 4000000
namespace K41
open PySem PySem.Spec PyProof.Rows L2 Evl Gx
abbrev s_l_due : Stmt := topS 22
theorem sc_l_due : FnScope ["_law_way", "_law_face", "_law_some", "_law_names", "_law_good", "_law_one_here", "_law_at"] ["_law_way", "_law_face", "_law_some"] (defScope s_l_due) := ⟨rfl, rfl, rfl, by decide +kernel, rfl, by decide +kernel, by decide +kernel⟩
theorem call_isiX {X : Cx} {K : PySem.W.Frag} (h : X.K = K) : CallR X (.builtin "isinstance") (rIsi K) := by rw [← h]; exact call_isi
def ResD (K : PySem.W.Frag) (H : Hp) (a : Addr) : Res → Prop
  | .inl G => ∃ u, SqT K H a [.str "made", .ref u] ∧ SqT K H u G.vs
  | .inr j => SqT K H a [.str "wrong", .int (j : Nat)]
def spDue (K : PySem.W.Frag) : Sp := fun vs H Q _ => ∃ (way : Int) (a s : Addr) (F : Face) (xs : List V), vs = [.int way, .ref a, .ref s] ∧ FaceAt H a F ∧ H s = some (.lst xs) ∧ (∀ x ∈ xs, Tells K H x) ∧
  (way = 0 ∧ xs.length = 5 ∨ way = 1 ∧ xs.length = 5 ∨ way = 2 ∧ xs.length = 2) ∧ ∀ r, outc way F xs = some r → ∀ t H', Ex H H' → ResD K H' t r → Q (.ref t) H'
def goods (way : Int) (xs : List V) : List Bool := if way = 2 then (match xs with | [x, y] => [okTruth x, isB y] | _ => []) else (match xs with | m :: rest => okMode m :: (if way = 0 then rest.map isB else []) | [] => [])
theorem inV_bls : ∀ bs : List Bool, inV (.bl false) (bs.map V.bl) = bs.contains false
  | [] => rfl
  | b :: bs => by
    show (eqV (.bl b) (.bl false) || inV (.bl false) (bs.map V.bl)) = _
    rw [inV_bls bs, List.contains_cons]
    cases b <;> rfl
theorem flat_bls : ∀ bs : List Bool, (bs.map V.bl).all flatV = true
  | [] => rfl
  | _ :: bs => flat_bls bs
theorem first_false : ∀ bs : List Bool, bs.contains false = true → ∃ j : Nat, bs[j]? = some false ∧ ∀ (i : Nat) (z : Bool), i < j → bs[i]? = some z → z = true
  | [], h => by cases h
  | false :: bs, _ => ⟨0, rfl, fun i z h => absurd h (Nat.not_lt_zero _)⟩
  | true :: bs, h => by
    have h' : bs.contains false = true := by simpa using h
    obtain ⟨j, h1, h2⟩ := first_false bs h'
    refine ⟨j + 1, h1, fun i z hi hz => ?_⟩
    match i, hi, hz with
    | 0, _, hz => cases hz; rfl
    | i + 1, hi, hz => exact h2 i z (Nat.lt_of_succ_lt_succ hi) hz
theorem bad_zero {m : V} {xs : List V} (h : okMode m = false) : badAt m xs = some 0 := by unfold badAt; rw [if_pos h]
theorem goods_bad {way : Int} {F : Face} {xs : List V} {j : Nat} (hw : way = 0 ∧ xs.length = 5 ∨ way = 1 ∧ xs.length = 5 ∨ way = 2 ∧ xs.length = 2) (h : (goods way xs)[j]? = some false)
    (hb : ∀ i z, i < j → (goods way xs)[i]? = some z → z = true) : outc way F xs = some (.inr j) := by
  rcases hw with ⟨rfl, l⟩ | ⟨rfl, l⟩ | ⟨rfl, l⟩
  · match xs, l with
    | [m, x1, x2, x3, x4], _ =>
      refine oc0j ?_
      have g : goods 0 [m, x1, x2, x3, x4] = okMode m :: [x1, x2, x3, x4].map isB := rfl
      rw [g] at h hb
      match j, h, hb with
      | 0, h, _ => exact bad_zero (Option.some.inj h)
      | i + 1, h, hb =>
        have hm : okMode m = true := hb 0 _ (Nat.succ_pos _) rfl
        rw [List.getElem?_cons_succ, List.getElem?_map] at h
        obtain ⟨x, hx, ex⟩ := Option.map_eq_some_iff.mp h
        refine firstB m _ hm i x hx ex fun k z hk hz => ?_
        refine hb (k + 1) _ (Nat.succ_lt_succ hk) ?_
        rw [List.getElem?_cons_succ, List.getElem?_map, hz]; rfl
  · match xs, l with
    | [m, x1, x2, x3, x4], _ =>
      have g : goods 1 [m, x1, x2, x3, x4] = [okMode m] := rfl
      rw [g] at h
      match j, h with
      | 0, h =>
        rw [oc1]
        cases m with
        | str z => show (if z ∈ modes then _ else _) = _; rw [if_neg (of_decide_eq_false (Option.some.inj h))]
        | _ => rfl
      | i + 1, h => cases h
  · match xs, l with
    | [x, y], _ =>
      have g : goods 2 [x, y] = [okTruth x, isB y] := rfl
      rw [g] at h hb
      rw [oc2]
      match j, h, hb with
      | 0, h, _ =>
        cases x with
        | str z =>
          have hn : ¬ z ∈ truthsL := of_decide_eq_false (Option.some.inj h)
          cases y <;> (show (if z ∈ truthsL then _ else _) = _; rw [if_neg hn])
        | _ => rfl
      | 1, h, hb =>
        have ho : okTruth x = true := hb 0 _ (Nat.succ_pos _) rfl
        cases x with
        | str z =>
          have hn : z ∈ truthsL := of_decide_eq_true ho
          cases y with
          | bl c => exact absurd (Option.some.inj h) Bool.noConfusion
          | _ => show (if z ∈ truthsL then _ else _) = _; rw [if_pos hn]
        | _ => exact absurd ho Bool.noConfusion
      | i + 2, h, _ => cases h
theorem mode_of {m : V} (h : okMode m = true) : ∃ z, m = .str z ∧ z ∈ modes := by
  cases m with
  | str z => exact ⟨z, rfl, of_decide_eq_true h⟩
  | _ => exact absurd h Bool.noConfusion
theorem truth_of {m : V} (h : okTruth m = true) : ∃ z, m = .str z ∧ z ∈ truthsL := by
  cases m with
  | str z => exact ⟨z, rfl, of_decide_eq_true h⟩
  | _ => exact absurd h Bool.noConfusion
theorem isB_of {m : V} (h : isB m = true) : ∃ c, m = .bl c := by
  cases m with
  | bl c => exact ⟨c, rfl⟩
  | _ => exact absurd h Bool.noConfusion
theorem all_true {bs : List Bool} (h : bs.contains false = false) : ∀ b ∈ bs, b = true := fun b hb => by
  cases b with
  | true => rfl
  | false => rw [List.contains_iff_mem.mpr hb] at h; cases h
section
variable {P : Program} {w : World} {K : PySem.W.Frag} {mg : Str → Option Value} {base : Heap}
theorem ok_l_due {f : Addr} {fd : FuncData} (D : Def K mg "_law_due" s_l_due f fd ["_law_way", "_law_face", "_law_some"]) (bi : Bi mg) :
    FnOk P w K mg base CX0 1 f fd ["_law_way", "_law_face", "_law_some"] (spDue K) := by
  refine D.fn.ok sc_l_due (fun vs H Q E h => ?_) (fun cdv A outer s0 H vs Q E hr h => ?_)
  · obtain ⟨way, a, s, F, xs, rfl, _⟩ := h
    rfl
  · obtain ⟨way, a, s, F, xs, rfl, ha, hs, tl, hw, k⟩ := h
    refine ⟨_, (pss_cons (ps_set (i := 3) sc_l_due.nd rfl (Or.inr rfl) (pe_lst (pa_cons pe_str (pa_cons pe_str (pa_cons pe_str (pa_cons pe_str pa_nil))))))
  (Evl.pss_cut (ps_if (pt_cmpR op_eq (pv 0) pe_int (nomark _))
    (pss_one (ps_set (i := 4) sc_l_due.nd rfl (Or.inl rfl) (pe_lst (pa_cons (pe_and (pe_callB call_isi (by rfl) bi.isinstance bt_isinstance (pa_cons (pe_ix (ix_listK (K := K) rfl) (pv 2) pe_int (fun _ _ => rfl)) (pa_cons (pe_bltn (v := .ty "str") rfl bi.str bt_str rfl) pa_nil))) (pe_one (pe_cmpR op_in_seq (pe_ix (ix_listK (K := K) rfl) (pv 2) pe_int (fun _ _ => rfl)) (pv 3) (by rfl)))) (pa_cons (pe_callB call_isi (by rfl) bi.isinstance bt_isinstance (pa_cons (pe_ix (ix_listK (K := K) rfl) (pv 2) pe_int (fun _ _ => rfl)) (pa_cons (pe_bltn (v := .ty "bool") rfl bi.bool bt_bool rfl) pa_nil))) pa_nil)))))
    (pss_cons (ps_set (i := 4) sc_l_due.nd rfl (Or.inl rfl) (pe_lst (pa_cons (pe_and (pe_callB call_isi (by rfl) bi.isinstance bt_isinstance (pa_cons (pe_ix (ix_listK (K := K) rfl) (pv 2) pe_int (fun _ _ => rfl)) (pa_cons (pe_bltn (v := .ty "str") rfl bi.str bt_str rfl) pa_nil))) (pe_one (pe_cmpR op_in_seq (pe_ix (ix_listK (K := K) rfl) (pv 2) pe_int (fun _ _ => rfl)) (pe_tup (pa_cons pe_str (pa_cons pe_str (pa_cons pe_str pa_nil)))) (by rfl)))) pa_nil)))
    (pss_one (ps_set (i := 4) sc_l_due.nd rfl (Or.inl rfl) (pe_op op_cat (pv 4) (pe_lc (own := [("_law_one_here", 5)]) rfl sc_l_due.nd (pi_list (pe_slice sl_list (pv 2) (po_some pe_int) po_none)) (blkOk_by (N := ["_law_way", "_law_face", "_law_some", "_law_names", "_law_good", "_law_one_here", "_law_at"]) (sc := defScope s_l_due) (by decide +kernel)) (fun _ _ _ _ _ => (pg_name (i := 5) sc_l_due.nd rfl (Or.inl rfl))) (fun _ _ _ _ _ => (pts_one (pt_cmpR op_eq (pv 0) pe_int (nomark _)))) (fun _ _ _ _ _ => (pe_callB (call_isiX (K := K) rfl) (by rfl) bi.isinstance bt_isinstance (pa_cons (pv 5) (pa_cons (pe_bltn (v := .ty "bool") rfl bi.bool bt_bool rfl) pa_nil))))))))))
  (pss_cons (ps_if (pt_cmpR op_in_seq pe_bl (pv 4) (by rfl))
    (pss_one (ps_ret (pe_tup (pa_cons pe_str (pa_cons (pe_bm PySem.F.plainAttrs_list PySem.F.slot_list_index PySem.F.type_list_index mt_index (pv 4) (pa_cons pe_bl pa_nil)) pa_nil)))))
    pss_nil)
  (pss_cons (ps_if (pt_cmpR op_eq (pv 0) pe_int (nomark _))
    (pss_one (ps_ret (pe_tup (pa_cons pe_str (pa_cons (pe_callTy call_tupX (by rfl) bi.tuple bt_tuple (pa_cons (pv 2) pa_nil)) pa_nil)))))
    pss_nil)
  (pss_cons (ps_if (pt_cmpR op_eq (pv 0) pe_int (nomark _))
    (pss_one (ps_ret (pe_tup (pa_cons pe_str (pa_cons (pe_op op_catA (pe_tup (pa_cons (pe_ix (ix_listK (K := K) rfl) (pv 2) pe_int (fun _ _ => rfl)) pa_nil)) (pe_slice sl_tupA (pv 1) (po_some pe_int) po_none)) pa_nil)))))
    pss_nil)
  (pss_one (ps_ret (pe_tup (pa_cons pe_str (pa_cons (pe_callTy call_tupX (by rfl) bi.tuple bt_tuple (pa_cons (pe_lc (own := [("_law_at", 6)]) rfl sc_l_due.nd (pi_range1 rfl bi.range (pa_cons pe_int pa_nil)) (blkOk_by (N := ["_law_way", "_law_face", "_law_some", "_law_names", "_law_good", "_law_one_here", "_law_at"]) (sc := defScope s_l_due) (by decide +kernel)) (fun _ _ _ _ _ => (pg_name (i := 6) sc_l_due.nd rfl (Or.inl rfl))) (fun _ _ _ _ _ => pts_nil) (fun _ _ _ _ _ => (pe_ifExp (L2.PW.pt (pw_and (pt_cmpR op_gt (pv 6) pe_int (nomark _)) (pw_and1 (pt_cmpR op_eq (pe_ix (ix_listK (K := K) rfl) (pv 3) (pe_op op_sub (pv 6) pe_int) (fun _ _ => rfl)) (pe_ix (ix_listK (K := K) rfl) (pv 2) pe_int (fun _ _ => rfl)) (nomark _))))) (pe_ix (ix_listK (K := K) rfl) (pv 2) pe_int (fun _ _ => rfl)) (pe_ix (ix_tupK (K := K) rfl) (pv 1) (pv 6) (fun _ _ => rfl))))) pa_nil)) pa_nil)))))))))), ?_⟩
    refine ⟨by decide, fun n nn => ?_⟩
    have x1 := Ex.new (o := .lst [.str "unknown", .str "folds", .str "beneath", .str "early"]) nn
    have hn : upd H n (.lst [.str "unknown", .str "folds", .str "beneath", .str "early"]) n = some (.lst (truthsL.map V.str)) := upd_same
    have ha1 := ha.to x1
    have hs1 := x1 _ _ hs
    have tl1 : ∀ x ∈ xs, Tells K (upd H n (.lst [.str "unknown", .str "folds", .str "beneath", .str "early"])) x := fun x hx => (tl x hx).to x1
    generalize upd H n (.lst [.str "unknown", .str "folds", .str "beneath", .str "early"]) = H1 at x1 hn ha1 hs1 tl1 ⊢
    refine ⟨fun σ H' => ∃ (l : Addr) (y5 y6 : Option V), σ = [some (.int way), some (.ref a), some (.ref s), some (.ref n), some (.ref l), y5, y6] ∧ Ex H1 H' ∧ H' l = some (.lst ((goods way xs).map V.bl)), ?_, ?_⟩
    · refine ⟨_, rfl, rfl, _, rfl, if_d (fun h0 => ?_) (fun h0 => ?_)⟩
      · have h0 : way = 2 := V.int.inj h0
        subst h0
        have l2 : xs.length = 2 := by rcases hw with ⟨h, _⟩ | ⟨h, _⟩ | ⟨_, h⟩ <;> first | exact h | omega
        obtain ⟨x, y, rfl⟩ : ∃ x y, xs = [x, y] := by
          match xs, l2 with
          | [x, y], _ => exact ⟨x, y, rfl⟩
        obtain ⟨t1, a1, a2, a3⟩ := tl1 x (by simp)
        obtain ⟨t2, b1, b2, b3⟩ := tl1 y (by simp)
        have g : goods 2 [x, y] = [okTruth x, isB y] := rfl
        rw [g]
        have first : ∀ (Z : VK), Z (.bl (okTruth x)) H1 → tAndV (tCB (rIsi K) (tCons (tOp (rIxL K) (tVar 2) (tC (V.int 0))) (tCons (tC (V.ty "str")) tNil))) (tOp (rIn K false) (tOp (rIxL K) (tVar 2) (tC (V.int 0))) (tVar 3)) (List.set (L2.start ["_law_way", "_law_face", "_law_some", "_law_names", "_law_good", "_law_one_here", "_law_at"] [V.int 2, V.ref a, V.ref s]) 3 (some (V.ref n))) H1 Z := fun Z hz => by
          refine ⟨_, rfl, s, _, 0, x, rfl, rfl, SqL.of hs1, rfl, x, .ty "str", t1, .type "str", isS x, rfl, .ty "str", a1, a2, _, rfl, ?_⟩
          cases x with
          | str z =>
            refine if_t rfl ⟨_, rfl, s, _, 0, .str z, rfl, rfl, SqL.of hs1, rfl, _, rfl, n, _, rfl, .inl (SqL.of hn), rfl, flat_strs truthsL, ?_⟩
            rw [if_neg Bool.false_ne_true, inV_strs]
            exact hz
          | _ => exact if_f rfl hz
        refine first _ ⟨_, rfl, s, _, 1, y, rfl, rfl, SqL.of hs1, rfl, y, .ty "bool", t2, .type "bool", isB y, rfl, .ty "bool", b1, b3, (show 2 ≤ sizeLine from by decide), fun l nl => ⟨l, _, _, rfl, Ex.new nl, upd_same⟩⟩
      · have l5 : xs.length = 5 := by
          rcases hw with ⟨_, h⟩ | ⟨_, h⟩ | ⟨h, _⟩
          · exact h
          · exact h
          · exact absurd (congrArg V.int h) h0
        obtain ⟨m, x1', x2', x3', x4', rfl⟩ : ∃ m x1 x2 x3 x4, xs = [m, x1, x2, x3, x4] := by
          match xs, l5 with
          | [m, x1, x2, x3, x4], _ => exact ⟨m, x1, x2, x3, x4, rfl⟩
        obtain ⟨t1, a1, a2, a3⟩ := tl1 m (by simp)
        have g : goods way [m, x1', x2', x3', x4'] = [okMode m] ++ (if way = 0 then [x1', x2', x3', x4'].map isB else []) := by
          unfold goods
          rw [if_neg fun h => h0 (congrArg V.int h)]
          rfl
        rw [g]
        have first : ∀ (Z : VK), (∀ H2, Ex H1 H2 → Z (.bl (okMode m)) H2) → tAndV (tCB (rIsi K) (tCons (tOp (rIxL K) (tVar 2) (tC (V.int 0))) (tCons (tC (V.ty "str")) tNil))) (tOp (rIn K false) (tOp (rIxL K) (tVar 2) (tC (V.int 0))) (tTup (tCons (tC (V.str "every")) (tCons (tC (V.str "free")) (tCons (tC (V.str "text")) tNil))))) (List.set (L2.start ["_law_way", "_law_face", "_law_some", "_law_names", "_law_good", "_law_one_here", "_law_at"] [V.int way, V.ref a, V.ref s]) 3 (some (V.ref n))) H1 Z := fun Z hz => by
          refine ⟨_, rfl, s, _, 0, m, rfl, rfl, SqL.of hs1, rfl, m, .ty "str", t1, .type "str", isS m, rfl, .ty "str", a1, a2, _, rfl, ?_⟩
          cases m with
          | str z =>
            refine if_t rfl ⟨_, rfl, s, _, 0, .str z, rfl, rfl, SqL.of hs1, rfl, sz3, fun t nt => ⟨t, modes.map V.str, rfl, .inr (SqT.of upd_same), rfl, flat_strs modes, ?_⟩⟩
            rw [if_neg Bool.false_ne_true, inV_strs]
            exact hz _ (Ex.new nt)
          | _ => exact if_f rfl (hz H1 (Ex.refl H1))
        refine first _ fun H2 x2 => ⟨sz1, fun l nl => ?_⟩
        have x3 := x2.trans (Ex.new (o := .lst [.bl (okMode m)]) nl)
        have hl : upd H2 l (.lst [.bl (okMode m)]) l = some (.lst [.bl (okMode m)]) := upd_same
        generalize upd H2 l (.lst [.bl (okMode m)]) = H3 at x3 hl ⊢
        have hs3 := x3 _ _ hs1
        refine ⟨_, rfl, _, rfl, 1, rfl, s, _, rfl, SqL.of hs3, fun q nq => ?_⟩
        have e4 : cutV [m, x1', x2', x3', x4'] (some 1) none = [x1', x2', x3', x4'] := rfl
        rw [e4]
        have x4 := x3.trans (Ex.new (o := .lst [x1', x2', x3', x4']) nq)
        have hq : upd H3 q (.lst [x1', x2', x3', x4']) q = some (.lst [x1', x2', x3', x4']) := upd_same
        have hl4 := (Ex.new (o := .lst [x1', x2', x3', x4']) nq) _ _ hl
        generalize upd H3 q (.lst [x1', x2', x3', x4']) = H4 at x4 hq hl4 ⊢
        have tl4 : ∀ x ∈ [x1', x2', x3', x4'], Tells K H4 x := fun x hx => (tl1 x (List.mem_cons_of_mem _ hx)).to x4
        refine ⟨q, rfl, ⟨_, SqL.of hq⟩, fun d nd => ?_⟩
        refine lc_list (xs := [x1', x2', x3', x4']) (fun j H' => Ex H4 H' ∧ H' d = some (.lst ((if way = 0 then ([x1', x2', x3', x4'].take j).map isB else []).map V.bl))) ?_ (fun j H' _ z => SqL.of (z.1 _ _ hq)) ?_ ?_
        · refine ⟨Ex.new nd, ?_⟩
          rw [upd_same]
          split <;> rfl
        · rintro j x H5 hj ⟨x5, hd⟩
          obtain ⟨t2, b1, b2, b3⟩ := (tl4 x (List.mem_of_getElem? hj)).to x5
          refine ⟨rfl, _, rfl, rfl, _, rfl, ?_⟩
          by_cases hw0 : way = 0
          · subst hw0
            rw [if_pos rfl] at hd
            refine if_t rfl ⟨_, rfl, x, .ty "bool", t2, .type "bool", isB x, rfl, .ty "bool", b1, b3, _, hd, ?_, x5.mut nd, ?_⟩
            · rw [List.length_map, List.length_map, List.length_take]
              exact Nat.lt_of_le_of_lt (Nat.min_le_right _ _) (show 4 < sizeLine from by decide)
            · rw [upd_same, if_pos rfl, takeS hj, List.map_append, List.map_append]; rfl
          · refine if_f (decide_eq_false fun z => hw0 (V.int.inj z)) ⟨x5, ?_⟩
            rw [hd, if_neg hw0, if_neg hw0]
        · rintro H5 ⟨x5, hd⟩
          refine ⟨l, d, _, _, rfl, rfl, x5 _ _ hl4, hd, ?_, fun p np => ⟨p, _, _, rfl, (x4.trans x5).trans (Ex.new np), ?_⟩⟩
          · split
            · exact (show 1 + 4 ≤ sizeLine from by decide)
            · exact (show 1 + 0 ≤ sizeLine from by decide)
          · rw [upd_same, List.map_append]
            split <;> rfl
    · rintro σ H' ⟨l, y5, y6, rfl, e2, hl⟩
      have x2 := x1.trans e2
      refine ⟨_, rfl, l, _, rfl, .inl (SqL.of hl), rfl, flat_bls _, _, rfl, ?_⟩
      rw [if_neg Bool.false_ne_true, inV_bls]
      cases hc : (goods way xs).contains false with
      | true =>
        obtain ⟨j, h1, h2⟩ := first_false _ hc
        refine if_t rfl ⟨_, rfl, .inl ⟨rfl, _, SqL.of hl⟩, l, _, .bl false, j, .bl false, rfl, rfl, SqL.of hl, rfl, flat_bls _, by rw [List.getElem?_map, h1]; rfl, rfl, fun i z hi hz => ?_, sz2, fun t nt => ?_⟩
        · rw [List.getElem?_map] at hz
          obtain ⟨b, hb, rfl⟩ := Option.map_eq_some_iff.mp hz
          rw [h2 i b hi hb]; rfl
        · exact k (.inr j) (goods_bad hw h1 h2) t _ (x2.trans (Ex.new nt)) (SqT.of upd_same)
      | false =>
        have al := all_true hc
        have ha2 := ha.to x2
        have hs2 := x2 _ _ hs
        have hn2 := e2 _ _ hn
        refine if_f rfl ⟨_, rfl, rfl, _, rfl, if_d (fun h0 => ?_) (fun h0 => ?_)⟩
        · have h0 : way = 0 := V.int.inj h0
          subst h0
          have l5 : xs.length = 5 := by rcases hw with ⟨_, h⟩ | ⟨h, _⟩ | ⟨h, _⟩ <;> first | exact h | omega
          obtain ⟨m, x1', x2', x3', x4', rfl⟩ : ∃ m x1 x2 x3 x4, xs = [m, x1, x2, x3, x4] := by
            match xs, l5 with
            | [m, x1, x2, x3, x4], _ => exact ⟨m, x1, x2, x3, x4, rfl⟩
          have g : goods 0 [m, x1', x2', x3', x4'] = okMode m :: [x1', x2', x3', x4'].map isB := rfl
          rw [g] at al
          have hb : badAt m [x1', x2', x3', x4'] = none := noBad _ _ (al _ List.mem_cons_self) fun x hx => al _ (List.mem_cons_of_mem _ (List.mem_map_of_mem hx))
          obtain ⟨G, hG, e1, e2', hm⟩ := face_of hb
          have ev : [m, x1', x2', x3', x4'] = G.vs := by rw [e1, e2']; rfl
          refine ⟨_, rfl, s, _, rfl, SqL.of hs2, fun u H3 nu e3 hu => ⟨sz2, fun t nt => ?_⟩⟩
          refine k (.inl G) (oc0g hb hG) t _ (x2.trans (e3.trans (Ex.new nt))) ⟨u, SqT.of upd_same, ?_⟩
          rw [← ev]
          exact (hu.to (Ex.new nt)).sq
        · refine ⟨_, rfl, rfl, _, rfl, if_d (fun h1 => ?_) (fun h1 => ?_)⟩
          · have h1 : way = 1 := V.int.inj h1
            subst h1
            have l5 : xs.length = 5 := by rcases hw with ⟨h, _⟩ | ⟨_, h⟩ | ⟨h, _⟩ <;> first | exact h | omega
            obtain ⟨m, x1', x2', x3', x4', rfl⟩ : ∃ m x1 x2 x3 x4, xs = [m, x1, x2, x3, x4] := by
              match xs, l5 with
              | [m, x1, x2, x3, x4], _ => exact ⟨m, x1, x2, x3, x4, rfl⟩
            obtain ⟨z, rfl, hz⟩ := mode_of (al (okMode m) List.mem_cons_self)
            have oj : outc 1 F [.str z, x1', x2', x3', x4'] = some (.inl { F with m := z }) := by
              rw [oc1]; show (if z ∈ modes then _ else _) = _; rw [if_pos hz]
            refine ⟨_, rfl, s, _, 0, .str z, rfl, rfl, SqL.of hs2, rfl, sz1, fun q nq => ?_⟩
            have x3 := Ex.new (o := .tup [.str z]) nq
            have hq : upd H' q (.tup [.str z]) q = some (.tup [.str z]) := upd_same
            have ha3 := ha2.to x3
            generalize upd H' q (.tup [.str z]) = H3 at x3 hq ha3 ⊢
            refine ⟨_, rfl, 1, rfl, a, F.vs, rfl, SqT.of ha3, fun h => absurd h.1 (by show ¬ (1 = 0); decide), fun _ p np => ?_⟩
            have x4 := x3.trans (Ex.new (o := .tup (cutV F.vs (some 1) none)) np)
            have hp : upd H3 p (.tup (cutV F.vs (some 1) none)) p = some (.tup F.ts) := upd_same
            have hq4 := (Ex.new (o := .tup (cutV F.vs (some 1) none)) np) _ _ hq
            generalize upd H3 p (.tup (cutV F.vs (some 1) none)) = H4 at x4 hp hq4 ⊢
            refine ⟨q, p, _, _, rfl, rfl, SqT.of hq4, SqT.of hp, (show 1 + 4 ≤ sizeLine from by decide), fun h => (by cases h), fun _ h => (by cases h), fun _ _ u nu => ⟨sz2, fun t nt => ?_⟩⟩
            have hu : upd H4 u (.tup ([V.str z] ++ F.ts)) u = some (.tup ([V.str z] ++ F.ts)) := upd_same
            exact k _ oj t _ (x2.trans (x4.trans ((Ex.new nu).trans (Ex.new nt)))) ⟨u, SqT.of upd_same, SqT.of ((Ex.new nt) _ _ hu)⟩
          · have h2 : way = 2 := by
              rcases hw with ⟨h, _⟩ | ⟨h, _⟩ | ⟨h, _⟩
              · exact absurd (congrArg V.int h) h0
              · exact absurd (congrArg V.int h) h1
              · exact h
            subst h2
            have l2 : xs.length = 2 := by rcases hw with ⟨h, _⟩ | ⟨h, _⟩ | ⟨_, h⟩ <;> first | exact h | omega
            obtain ⟨x, y, rfl⟩ : ∃ x y, xs = [x, y] := by
              match xs, l2 with
              | [x, y], _ => exact ⟨x, y, rfl⟩
            have g : goods 2 [x, y] = [okTruth x, isB y] := rfl
            rw [g] at al
            obtain ⟨z, rfl, hz⟩ := truth_of (al (okTruth x) (by simp))
            obtain ⟨c, rfl⟩ := isB_of (al (isB y) (by simp))
            have oj : outc 2 F [.str z, .bl c] = some (.inl (F.put z c)) := by
              rw [oc2]; show (if z ∈ truthsL then _ else _) = _; rw [if_pos hz]
            refine ⟨5, rfl, by decide, by decide, fun d nd => lc_range (lo := 0) (n := 5) (fun j H3 => Ex H' H3 ∧ H3 d = some (.lst ((F.put z c).vs.take j))) ?_ ?_ ?_⟩
            · exact ⟨Ex.new nd, upd_same⟩
            · rintro j H3 hj ⟨e3, hd⟩
              have ha3 := ha2.to e3
              have sz : ((F.put z c).vs.take j).length < sizeLine := Nat.lt_of_le_of_lt (show _ ≤ 5 by rw [List.length_take]; exact Nat.min_le_right _ _) (by decide)
              have fin : ∀ w, (F.put z c).vs[j]? = some w → Ex H' (upd H3 d (.lst ((F.put z c).vs.take j ++ [w]))) ∧ upd H3 d (.lst ((F.put z c).vs.take j ++ [w])) d = some (.lst ((F.put z c).vs.take (j + 1))) := fun w hw =>
                ⟨e3.mut nd, by rw [upd_same, takeS hw]⟩
              rcases Nat.eq_zero_or_pos j with rfl | j1
              · exact ⟨rfl, _, rfl, _, _, rfl, rfl, _, rfl, if_f rfl (if_f rfl ⟨_, rfl, _, rfl, a, F.vs, _, _, rfl, rfl, SqT.of ha3, rfl, _, hd, sz, fin _ rfl⟩)⟩
              · obtain ⟨nm, o, h1', h2', h3'⟩ : ∃ nm o, atI (truthsL.map V.str) ((0 : Int) + (j : Nat) - 1) = some (.str nm) ∧ atI F.vs ((0 : Int) + (j : Nat)) = some o ∧ (F.put z c).vs[j]? = some (if nm = z then .bl c else o) := by
                  match j, hj, j1 with
                  | 1, _, _ => refine ⟨"unknown", _, rfl, rfl, ?_⟩; show some (V.bl (if _ then _ else _)) = _; congr 1; split <;> rfl
                  | 2, _, _ => refine ⟨"folds", _, rfl, rfl, ?_⟩; show some (V.bl (if _ then _ else _)) = _; congr 1; split <;> rfl
                  | 3, _, _ => refine ⟨"beneath", _, rfl, rfl, ?_⟩; show some (V.bl (if _ then _ else _)) = _; congr 1; split <;> rfl
                  | 4, _, _ => refine ⟨"early", _, rfl, rfl, ?_⟩; show some (V.bl (if _ then _ else _)) = _; congr 1; split <;> rfl
                have jp : decide ((0 : Int) < 0 + (j : Nat)) = true := decide_eq_true (by omega)
                refine ⟨rfl, _, rfl, _, _, rfl, rfl, _, rfl, if_t jp ?_⟩
                refine ⟨_, rfl, _, rfl, _, _, rfl, rfl, n, _, _, .str nm, rfl, rfl, SqL.of (e3 _ _ hn2), h1', _, rfl, s, _, 0, .str z, rfl, rfl, SqL.of (e3 _ _ hs2), rfl, rfl, _, rfl, ?_⟩
                by_cases en : nm = z
                · rw [if_pos en] at h3'
                  have e0 : decide (V.str nm = V.str z) = true := decide_eq_true (congrArg V.str en)
                  exact if_t e0 ⟨_, rfl, s, _, 1, .bl c, rfl, rfl, SqL.of (e3 _ _ hs2), rfl, _, hd, sz, fin _ h3'⟩
                · rw [if_neg en] at h3'
                  have e0 : decide (V.str nm = V.str z) = false := decide_eq_false fun h => en (V.str.inj h)
                  exact if_f e0 ⟨_, rfl, _, rfl, a, F.vs, _, o, rfl, rfl, SqT.of ha3, h2', _, hd, sz, fin _ h3'⟩
            · rintro H3 ⟨e3, hd⟩
              refine ⟨d, _, rfl, SqL.of hd, fun u H4 nu e4 hu => ⟨sz2, fun t nt => ?_⟩⟩
              exact k _ oj t _ (x2.trans (e3.trans (e4.trans (Ex.new nt)))) ⟨u, SqT.of upd_same, (hu.to (Ex.new nt)).sq⟩
end
end K41

set_option Elab.async false
set_option linter.all false
set_option maxRecDepth 100000
set_option maxHeartbeats 4000000
namespace K41
open PySem PySem.Spec PyProof.Rows L2 Evl Gx
abbrev s_l_alike : Stmt := topS 14
theorem sc_l_alike : FnScope ["_law_found", "_law_due_here"] ["_law_found", "_law_due_here"] (defScope s_l_alike) := ⟨rfl, rfl, rfl, by decide +kernel, rfl, by decide +kernel, by decide +kernel⟩
def spAlike (K : PySem.W.Frag) : Sp := fun vs H Q _ => ∃ (x y : V) (d : PyData), vs = [x, y] ∧ Dp K H x d ∧ Dp K H y d ∧
  SeqAt.shaped d = true ∧ d.showable = true ∧ wide d ≤ 10000000 ∧ Q (.bl true) H
section
variable {P : Program} {w : World} {K : PySem.W.Frag} {mg : Str → Option Value} {base : Heap}
theorem ok_alike {f : Addr} {fd : FuncData} (D : Def K mg "_law_alike" s_l_alike f fd ["_law_found", "_law_due_here"]) (bi : Bi mg) :
    FnQ P w K mg base CX0 1 f fd ["_law_found", "_law_due_here"] (spAlike K) := by
  refine fnq_ok D.fn sc_l_alike (fun vs H Q E h => ?_) (fun cdv A outer s0 H vs Q E hr qu h => ?_)
  · obtain ⟨x, y, d, rfl, _⟩ := h
    rfl
  · obtain ⟨x, y, d, rfl, hx, hy, h1, h2, h3, k⟩ := h
    have hu64 := hr.units
    have hu2 : (A.deeper (envOfC "_law_alike" (defScope s_l_alike) s0.heap.objs.size f cdv)).units + 200 < cLine := by have := hr.un; omega
    refine ⟨_, (pss_one (ps_ret (pe_and (pe_cmpR (op_eqD hu64) (pv 0) (pv 1) (nomark _)) (pe_one (pe_cmpR op_eq (pe_callB (call_repD qu hu2) (by rfl) bi.repr bt_repr (pa_cons (pv 0) pa_nil)) (pe_callB (call_repD qu hu2) (by rfl) bi.repr bt_repr (pa_cons (pv 1) pa_nil)) (nomark _)))))), ?_⟩
    have dd : d.hasDict = false := PyData.hasDict_of_canLay d (SeqAt.canLay_of_shaped h1)
    have dp : d.depth ≤ 100 := Nat.le_trans (SeqAt.depth_of_shaped h1) (by decide)
    refine ⟨_, rfl, _, rfl, d, d, hx, hy, h1, h1, _, rfl, ?_⟩
    rw [SeqAt.eqv_refl d (SeqAt.canLay_of_shaped h1)]
    refine iteT ⟨_, rfl, x, d, rfl, hx, h2, dd, dp, h3, _, rfl, y, d, rfl, hy, h2, dd, dp, h3, rfl, ?_⟩
    rw [decide_eq_true rfl]
    exact k
end
end K41

set_option Elab.async false
set_option linter.all false
set_option maxRecDepth 100000
set_option maxHeartbeats 4000000
namespace K41
open PySem PySem.Spec PyProof.Rows L2 Evl Gx
abbrev s_law : Stmt := topS 23
theorem sc_law : FnScope ["_law_script", "_law_bag_here", "_law_faces_here", "_law_again", "_law_found", "_law_one_here", "_law_plain", "_law_odd", "_law_turn", "_law_face", "_law_planner", "_law_other_face", "_law_other", "_law_same", "_law_k", "_law_way", "_law_some"] ["_law_script"] (defScope s_law) := ⟨rfl, rfl, rfl, by decide +kernel, rfl, by decide +kernel, by decide +kernel⟩
def spLaw (K : PySem.W.Frag) : Sp := fun vs H Q _ => ∃ (a : Addr) (ns : List Int), vs = [.ref a] ∧ SqL K H a (ns.map V.int) ∧ ns.length ≤ 63 ∧ ∀ H', Q (.bl true) H'
def okD (d : PyData) : Prop := SeqAt.shaped d = true ∧ d.showable = true ∧ wide d ≤ 10000000
instance (d : PyData) : Decidable (okD d) := by unfold okD; exact inferInstance
def dF (G : Face) : PyData := .tuple [.str G.m, .bool G.u, .bool G.f, .bool G.b, .bool G.e]
theorem face_dp {K : PySem.W.Frag} {H : Hp} {t : Addr} {G : Face} (h : SqT K H t G.vs) : Dp K H (.ref t) (dF G) := .tup h (.cons (.str _) (.cons (.bl _) (.cons (.bl _) (.cons (.bl _) (.cons (.bl _) .nil)))))
theorem faces_dp {K : PySem.W.Frag} {H : Hp} {ts : List Addr} {l : List Face} (h : Paired (FaceAt H) ts l) : DpAll K H (ts.map V.ref) (l.map dF) := by
  induction h with
  | nil => exact .nil
  | cons h _ ih => exact .cons (face_dp (SqT.of h)) ih
theorem faces_ok : ∀ G ∈ allFaces, okD (dF G) ∧ okD (.tuple [.str "made", dF G]) := by decide +kernel
theorem all_okD : okD (.list (allFaces.map dF)) := by decide +kernel
theorem wrong_ok : ∀ j < 5, okD (.tuple [.str "wrong", .int (j : Nat)]) := by decide +kernel
theorem bools_ok : ∀ a b : Bool, okD (.bool a) ∧ okD (.list [.bool a, .bool b]) := by decide +kernel
theorem face_in : ∀ m ∈ modes, ∀ a b c d, (⟨m, a, b, c, d⟩ : Face) ∈ allFaces := by decide
theorem mem_all {G : Face} (h : G.m ∈ modes) : G ∈ allFaces := face_in G.m h ..
theorem all_mem : ∀ G ∈ allFaces, G.m ∈ modes := by decide
theorem tells5 {K : PySem.W.Frag} {H : Hp} (G : Face) : ∀ x ∈ [V.str G.m, .bl G.u, .bl G.f, .bl G.b, .bl G.e], Tells K H x := fun x hx => by
  simp only [List.mem_cons, List.not_mem_nil, or_false] at hx
  rcases hx with rfl | rfl | rfl | rfl | rfl
  · exact Tells.str _
  · exact Tells.bl _
  · exact Tells.bl _
  · exact Tells.bl _
  · exact Tells.bl _
theorem nobad5 {G : Face} {j : Nat} {Z : Prop} (hm : G.m ∈ modes) (h : badAt (.str G.m) [.bl G.u, .bl G.f, .bl G.b, .bl G.e] = some j) : Z := by
  rw [show badAt (.str G.m) [.bl G.u, .bl G.f, .bl G.b, .bl G.e] = none from good_face hm] at h; cases h
def resD : Res → PyData
  | .inl G => .tuple [.str "made", dF G]
  | .inr j => .tuple [.str "wrong", .int (j : Nat)]
theorem resAt_dp {K : PySem.W.Frag} {H : Hp} {a : Addr} : ∀ {r : Res}, ResAt H a r → Dp K H (.ref a) (resD r)
  | .inl G, h => by
    obtain ⟨t, h1, h2⟩ := h
    exact .tup (SqT.of h1) (.cons (.str _) (.cons (face_dp (SqT.of h2)) .nil))
  | .inr j, h => .tup (SqT.of h) (.cons (.str _) (.cons (.int _) .nil))
theorem resD_dp {K : PySem.W.Frag} {H : Hp} {a : Addr} : ∀ {r : Res}, ResD K H a r → Dp K H (.ref a) (resD r)
  | .inl G, h => by
    obtain ⟨t, h1, h2⟩ := h
    exact .tup h1 (.cons (.str _) (.cons (face_dp h2) .nil))
  | .inr j, h => .tup h (.cons (.str _) (.cons (.int _) .nil))
theorem put_m (F : Face) (s : Str) (c : Bool) : (F.put s c).m = F.m := rfl
theorem outc_ok {way : Int} {F : Face} {xs : List V} (hm : F.m ∈ modes) (hw : way = 0 ∧ xs.length = 5 ∨ way = 1 ∧ xs.length = 5 ∨ way = 2 ∧ xs.length = 2) : ∃ r, outc way F xs = some r ∧ okD (resD r) := by
  cases hc : (goods way xs).contains false with
  | true =>
    obtain ⟨j, h1, h2⟩ := first_false _ hc
    refine ⟨.inr j, goods_bad hw h1 h2, wrong_ok j ?_⟩
    have jl := (List.getElem?_eq_some_iff.mp h1).1
    have gl : (goods way xs).length ≤ 5 := by
      rcases hw with ⟨rfl, l⟩ | ⟨rfl, l⟩ | ⟨rfl, l⟩
      · match xs, l with
        | [m, x1, x2, x3, x4], _ => exact Nat.le_refl 5
      · match xs, l with
        | [m, x1, x2, x3, x4], _ => exact (show 1 ≤ 5 by decide)
      · match xs, l with
        | [x, y], _ => exact (show 2 ≤ 5 by decide)
    omega
  | false =>
    have al := all_true hc
    rcases hw with ⟨rfl, l⟩ | ⟨rfl, l⟩ | ⟨rfl, l⟩
    · match xs, l with
      | [m, x1, x2, x3, x4], _ =>
        have g : goods 0 [m, x1, x2, x3, x4] = okMode m :: [x1, x2, x3, x4].map isB := rfl
        rw [g] at al
        have hb : badAt m [x1, x2, x3, x4] = none := noBad _ _ (al _ List.mem_cons_self) fun x hx => al _ (List.mem_cons_of_mem _ (List.mem_map_of_mem hx))
        obtain ⟨G, hG, _, _, hGm⟩ := face_of hb
        exact ⟨.inl G, oc0g hb hG, (faces_ok G (mem_all hGm)).2⟩
    · match xs, l with
      | [m, x1, x2, x3, x4], _ =>
        obtain ⟨z, rfl, hz⟩ := mode_of (al (okMode m) List.mem_cons_self)
        refine ⟨.inl { F with m := z }, ?_, (faces_ok _ (mem_all hz)).2⟩
        rw [oc1]; show (if z ∈ modes then _ else _) = _; rw [if_pos hz]
    · match xs, l with
      | [x, y], _ =>
        have g : goods 2 [x, y] = [okTruth x, isB y] := rfl
        rw [g] at al
        obtain ⟨z, rfl, hz⟩ := truth_of (al (okTruth x) (by simp))
        obtain ⟨c, rfl⟩ := isB_of (al (isB y) (by simp))
        refine ⟨.inl (F.put z c), ?_, (faces_ok _ (mem_all (by rw [put_m]; exact hm))).2⟩
        rw [oc2]; show (if z ∈ truthsL then _ else _) = _; rw [if_pos hz]
theorem tells_put {K : PySem.W.Frag} {H : Hp} {s : Addr} {xs ys : List V} {x : V} (h : Tells K H x) (hs : H s = some (.lst xs)) : Tells K (upd H s (.lst ys)) x := by
  have up : ∀ {a : Addr} {o : HO}, H a = some o → (∀ zs, o ≠ .lst zs) → upd H s (.lst ys) a = some o := fun {a o} h n => by
    rw [upd_ne (fun e => by subst e; rw [hs] at h; cases h; exact n _ rfl)]; exact h
  obtain ⟨t, h1, h2⟩ := h
  cases h1 with
  | base b =>
    cases b with
    | non => exact ⟨_, .base .non, h2⟩
    | bl x => exact ⟨_, .base (.bl x), h2⟩
    | int i => exact ⟨_, .base (.int i), h2⟩
    | str x => exact ⟨_, .base (.str x), h2⟩
    | flt x => exact ⟨_, .base (.flt x), h2⟩
    | lst q =>
      rename_i a zs
      by_cases e : a = s
      · subst e; exact ⟨_, .base (.lst upd_same), h2⟩
      · exact ⟨_, .base (.lst (by rw [upd_ne e]; exact q)), h2⟩
    | frz q => exact ⟨_, .base (.frz (up q (fun _ h => by cases h))), h2⟩
    | tup q => exact ⟨_, .base (.tup (up q (fun _ h => by cases h))), h2⟩
    | dK q => exact ⟨_, .base (.dK (up q (fun _ h => by cases h))), h2⟩
    | dT q => exact ⟨_, .base (.dT (up q (fun _ h => by cases h))), h2⟩
    | ins q c a n t m => exact ⟨_, .base (.ins (up q (fun _ h => by cases h)) c a n t m), h2⟩
  | byt b => exact ⟨_, .byt b, h2⟩
  | set q => exact ⟨_, .set (up q (fun _ h => by cases h)), h2⟩
  | kList a b => exact ⟨_, .kList a b, h2⟩
  | kTuple a b => exact ⟨_, .kTuple a b, h2⟩
  | kDict a b => exact ⟨_, .kDict a b, h2⟩
  | fTuple q => exact ⟨_, .fTuple (up q (fun _ h => by cases h)), h2⟩
  | fDict q => exact ⟨_, .fDict (up q (fun _ h => by cases h)), h2⟩
theorem dF_eqv : ∀ G ∈ allFaces, ∀ G2 ∈ allFaces, (dF G).eqv (dF G2) = decide (G = G2) := by decide +kernel
theorem pair_pick {C D : Type} {R : C → D → Prop} {as : List C} {bs : List D} (h : Paired R as bs) {a : C} (ha : a ∈ as) : ∃ b ∈ bs, R a b := by
  induction h with
  | nil => cases ha
  | cons h1 _ ih =>
    rcases List.mem_cons.mp ha with rfl | g
    · exact ⟨_, List.mem_cons_self, h1⟩
    · obtain ⟨b, hb, hr⟩ := ih g
      exact ⟨b, List.mem_cons_of_mem _ hb, hr⟩
def falses : List V := [.bl false, .bl false, .bl false, .bl false]
section
variable {P : Program} {w : World} {K : PySem.W.Frag} {mg : Str → Option Value} {base : Heap} {C CW fI gE f_l_bag f_l_take f_l_one f_l_alike f_l_deep f_l_faces f_l_made f_l_every_face f_l_is_in_face f_l_tried f_l_due f_all_planners p_is_within : Addr}
  {fdI fdE fd_l_bag fd_l_take fd_l_one fd_l_alike fd_l_deep fd_l_faces fd_l_made fd_l_every_face fd_l_is_in_face fd_l_tried fd_l_due fd_all_planners fd_is_within : FuncData} {dsP : List Value}
theorem ok_law {f : Addr} {fd : FuncData} (D : Def K mg "law" s_law f fd ["_law_script"]) (bi : Bi mg) (T_Planner : PlannerT K mg C fI) (Z : EqC K C gE)
    (G_Planner___init : FnOk P w K mg base (L2.CX P w) 3 fI fdI pPln (spPlnI K C CW)) (hbP : L2.Binds K fdI pPln dsP) (hdP : Vals falses dsP)
    (G_eqR : FnR P w K mg base CX0 1 gE (spEqP K C))
    (D_l_bag : Def K mg "_law_bag" s_l_bag f_l_bag fd_l_bag ["_law_script"])
    (G_l_bag : FnOk P w K mg base CX0 1 f_l_bag fd_l_bag ["_law_script"] (spBag K))
    (D_l_take : Def K mg "_law_take" s_l_take f_l_take fd_l_take ["_law_bag_here", "_law_many"])
    (G_l_take : FnOk P w K mg base CX0 1 f_l_take fd_l_take ["_law_bag_here", "_law_many"] spTake)
    (D_l_one : Def K mg "_law_one" s_l_one f_l_one fd_l_one ["_law_bag_here", "_law_things"])
    (G_l_one : FnOk P w K mg base CX0 2 f_l_one fd_l_one ["_law_bag_here", "_law_things"] (spOne K))
    (D_l_alike : Def K mg "_law_alike" s_l_alike f_l_alike fd_l_alike ["_law_found", "_law_due_here"])
    (G_l_alike : FnQ P w K mg base CX0 1 f_l_alike fd_l_alike ["_law_found", "_law_due_here"] (spAlike K))
    (D_l_deep : Def K mg "_law_deep" s_l_deep f_l_deep fd_l_deep ["_law_many"])
    (G_l_deep : FnOk P w K mg base CX0 1 f_l_deep fd_l_deep ["_law_many"] spDeep)
    (D_l_faces : Def K mg "_law_faces" s_l_faces f_l_faces fd_l_faces ["_law_planner"])
    (G_l_faces : FnOk P w K mg base CX0 4 f_l_faces fd_l_faces ["_law_planner"] (spFaces C))
    (D_l_made : Def K mg "_law_made" s_l_made f_l_made fd_l_made ["_law_face"])
    (G_l_made : FnOk P w K mg base (L2.CX P w) 5 f_l_made fd_l_made ["_law_face"] (spMade K C CW))
    (D_l_every_face : Def K mg "_law_every_face" s_l_every_face f_l_every_face fd_l_every_face [])
    (G_l_every_face : FnOk P w K mg base CX0 1 f_l_every_face fd_l_every_face [] (spEvery K))
    (D_l_is_in_face : Def K mg "_law_is_in_face" s_l_is_in_face f_l_is_in_face fd_l_is_in_face ["_law_one_here", "_law_other"])
    (G_l_is_in_face : FnOk P w K mg base CX0 1 f_l_is_in_face fd_l_is_in_face ["_law_one_here", "_law_other"] (spInFace K))
    (D_l_tried : Def K mg "_law_tried" s_l_tried f_l_tried fd_l_tried ["_law_way", "_law_planner", "_law_some"])
    (G_l_tried : FnOk P w K mg base CX0 8 f_l_tried fd_l_tried ["_law_way", "_law_planner", "_law_some"] (spTried K C))
    (D_l_due : Def K mg "_law_due" s_l_due f_l_due fd_l_due ["_law_way", "_law_face", "_law_some"])
    (G_l_due : FnOk P w K mg base CX0 1 f_l_due fd_l_due ["_law_way", "_law_face", "_law_some"] (spDue K))
    (D_all_planners : Def K mg "all_planners" s_all_planners f_all_planners fd_all_planners [])
    (G_all_planners : FnOk P w K mg base CX0 6 f_all_planners fd_all_planners [] (spAllP K C))
    (D_Planner_is_within : MDef K C "is_within" "Planner.is_within" s_Planner_is_within p_is_within fd_is_within ["self", "other"])
    (G_Planner_is_within : FnOk P w K mg base CX0 4 p_is_within fd_is_within ["self", "other"] (spWithin C)) :
    FnQ P w K mg base CX0 10 f fd ["_law_script"] (spLaw K) := by
  refine fnq_ok D.fn sc_law (fun vs H Q E h => ?_) (fun cdv A outer s0 H vs Q E hr qu h => ?_)
  · obtain ⟨a, ns, rfl, _⟩ := h
    rfl
  · obtain ⟨a, ns, rfl, ha, hl, k⟩ := h
    have hu64 := hr.units
    have hu := hu_of hr
    have hu2 : (A.deeper (envOfC "law" (defScope s_law) s0.heap.objs.size f cdv)).units + 200 < cLine := by have := hr.un; omega
    refine ⟨_, (pss_cons (ps_set (i := 1) sc_law.nd rfl (Or.inl rfl) (pe_call G_l_bag (hr.mono (by first | decide | omega)) rfl D_l_bag.mg D_l_bag.fn.kp D_l_bag.bd .nil pass0 (pa_cons (pv 0) pa_nil)))
  (pss_cons (ps_set (i := 2) sc_law.nd rfl (Or.inl rfl) (pe_call0 G_l_every_face (hr.mono (by first | decide | omega)) rfl D_l_every_face.mg D_l_every_face.fn.kp D_l_every_face.bd .nil pass0))
  (pss_cons (ps_for PassesOwn.never rfl (pi_range1 rfl bi.range (pa_cons pe_int pa_nil)) (pg_name (i := 3) sc_law.nd rfl (Or.inl rfl))
    (pss_cons (ps_set (i := 4) sc_law.nd rfl (Or.inl rfl) (pe_call0 G_all_planners (hr.mono (by first | decide | omega)) rfl D_all_planners.mg D_all_planners.fn.kp D_all_planners.bd .nil pass0))
    (pss_cons (ps_if (pt_not (pt_val (pe_callQ G_l_alike qu (hr.mono (by first | decide | omega)) rfl D_l_alike.mg D_l_alike.fn.kp D_l_alike.bd pass0 (pa_cons (pe_lc (own := [("_law_one_here", 5)]) rfl sc_law.nd (pi_list (pv 4)) (blkOk_by (N := ["_law_script", "_law_bag_here", "_law_faces_here", "_law_again", "_law_found", "_law_one_here", "_law_plain", "_law_odd", "_law_turn", "_law_face", "_law_planner", "_law_other_face", "_law_other", "_law_same", "_law_k", "_law_way", "_law_some"]) (sc := defScope s_law) (by decide +kernel)) (fun _ _ _ _ _ => (pg_name (i := 5) sc_law.nd rfl (Or.inl rfl))) (fun _ _ _ _ _ => pts_nil) (fun _ _ _ _ _ => (pe_call G_l_faces (hr.mono (by first | decide | omega)) rfl D_l_faces.mg D_l_faces.fn.kp D_l_faces.bd .nil pass0 (pa_cons (pv 5) pa_nil)))) (pa_cons (pv 2) pa_nil)))))
      (pss_one (ps_ret pe_bl))
      pss_nil)
    (pss_one (ps_expr (pe_bm PySem.F.plainAttrs_list PySem.F.slot_list_append PySem.F.type_list_append mt_append (pv 4) (pa_cons pe_non pa_nil)))))))
  (pss_cons (ps_set (i := 6) sc_law.nd rfl (Or.inl rfl) (pe_make T_Planner.mak G_Planner___init (hr.mono (by first | decide | omega)) rfl T_Planner.gC hbP hdP passL (pa_cons pe_str pa_nil)))
  (pss_cons (ps_if (pt_not (pt_val (pe_callQ G_l_alike qu (hr.mono (by first | decide | omega)) rfl D_l_alike.mg D_l_alike.fn.kp D_l_alike.bd pass0 (pa_cons (pe_call G_l_faces (hr.mono (by first | decide | omega)) rfl D_l_faces.mg D_l_faces.fn.kp D_l_faces.bd .nil pass0 (pa_cons (pv 6) pa_nil)) (pa_cons (pe_tup (pa_cons pe_str (pa_cons pe_bl (pa_cons pe_bl (pa_cons pe_bl (pa_cons pe_bl pa_nil)))))) pa_nil)))))
    (pss_one (ps_ret pe_bl))
    pss_nil)
  (pss_cons (ps_set (i := 7) sc_law.nd rfl (Or.inl rfl) (pe_lst (pa_cons pe_non (pa_cons pe_bl (pa_cons pe_bl (pa_cons pe_str (pa_cons pe_str (pa_cons pe_str (pa_cons pe_str (pa_cons pe_str (pa_cons pe_int (pa_cons pe_int (pa_cons (pe_tup pa_nil) (pa_cons (pe_lst pa_nil) (pa_cons pe_dnewK (pa_cons pe_str (pa_cons pe_str (pa_cons pe_str (pa_cons (pv 6) pa_nil)))))))))))))))))))
  (pss_cons (ps_for PassesOwn.never rfl (pi_range1 rfl bi.range (pa_cons pe_int pa_nil)) (pg_name (i := 8) sc_law.nd rfl (Or.inl rfl))
    (pss_cons (ps_set (i := 9) sc_law.nd rfl (Or.inl rfl) (pe_call G_l_one (hr.mono (by first | decide | omega)) rfl D_l_one.mg D_l_one.fn.kp D_l_one.bd .nil pass0 (pa_cons (pv 1) (pa_cons (pv 2) pa_nil))))
    (pss_cons (ps_set (i := 10) sc_law.nd rfl (Or.inl rfl) (pe_call G_l_made (hr.mono (by first | decide | omega)) rfl D_l_made.mg D_l_made.fn.kp D_l_made.bd .nil passL (pa_cons (pv 9) pa_nil)))
    (pss_cons (ps_for PassesOwn.never rfl (pi_list (pv 2)) (pg_name (i := 11) sc_law.nd rfl (Or.inl rfl))
      (pss_cons (ps_par (i := 12) (j := 13) rfl sc_law.nd rfl rfl (by decide) rfl rfl (pa_cons (pe_call G_l_made (hr.mono (by first | decide | omega)) rfl D_l_made.mg D_l_made.fn.kp D_l_made.bd .nil passL (pa_cons (pv 11) pa_nil)) (pa_cons (pe_cmpR (op_eqD hu64) (pv 9) (pv 11) (nomark _)) pa_nil)) (by rfl))
      (pss_cons (ps_if (pt_not (pt_val (pe_callQ G_l_alike qu (hr.mono (by first | decide | omega)) rfl D_l_alike.mg D_l_alike.fn.kp D_l_alike.bd pass0 (pa_cons (pe_lst (pa_cons (pe_cmpR (op_eqI Z.eq Z.fn G_eqR (hr.mono (by first | decide | omega)) pass0) (pv 10) (pv 12) (nomark _)) (pa_cons (pe_cmpR (op_neI Z.eq Z.fn Z.ne Z.cm G_eqR (hr.mono (by first | decide | omega)) pass0) (pv 10) (pv 12) (nomark _)) pa_nil))) (pa_cons (pe_lst (pa_cons (pv 13) (pa_cons (pe_not (pv 13)) pa_nil))) pa_nil)))))
        (pss_one (ps_ret pe_bl))
        pss_nil)
      (pss_one (ps_if (pt_not (pt_val (pe_callQ G_l_alike qu (hr.mono (by first | decide | omega)) rfl D_l_alike.mg D_l_alike.fn.kp D_l_alike.bd pass0 (pa_cons (pe_meth (pv 10) T_Planner.cl D_Planner_is_within.mt G_Planner_is_within (hr.mono (by first | decide | omega)) D_Planner_is_within.bd .nil pass0 (pa_cons (pv 12) pa_nil)) (pa_cons (pe_call G_l_is_in_face (hr.mono (by first | decide | omega)) rfl D_l_is_in_face.mg D_l_is_in_face.fn.kp D_l_is_in_face.bd .nil pass0 (pa_cons (pv 9) (pa_cons (pv 11) pa_nil))) pa_nil)))))
        (pss_one (ps_ret pe_bl))
        pss_nil)))))
    (pss_cons (ps_if (L2.PW.pt (pw_or (pt_cmpR (op_eqI Z.eq Z.fn G_eqR (hr.mono (by first | decide | omega)) pass0) (pv 10) (pv 9) (nomark _)) (pw_or (pt_cmpR (op_eqI Z.eq Z.fn G_eqR (hr.mono (by first | decide | omega)) pass0) (pv 10) pe_non (nomark _)) (pw_or1 (pt_not (pt_val (pe_callQ G_l_alike qu (hr.mono (by first | decide | omega)) rfl D_l_alike.mg D_l_alike.fn.kp D_l_alike.bd pass0 (pa_cons (pe_call G_l_faces (hr.mono (by first | decide | omega)) rfl D_l_faces.mg D_l_faces.fn.kp D_l_faces.bd .nil pass0 (pa_cons (pv 10) pa_nil)) (pa_cons (pv 9) pa_nil)))))))))
      (pss_one (ps_ret pe_bl))
      pss_nil)
    (pss_one (ps_for PassesOwn.never rfl (pi_range1 rfl bi.range (pa_cons pe_int pa_nil)) (pg_name (i := 14) sc_law.nd rfl (Or.inl rfl))
      (pss_cons (ps_par (i := 15) (j := 16) rfl sc_law.nd rfl rfl (by decide) rfl rfl (pa_cons (pe_call G_l_take (hr.mono (by first | decide | omega)) rfl D_l_take.mg D_l_take.fn.kp D_l_take.bd .nil pass0 (pa_cons (pv 1) (pa_cons pe_int pa_nil))) (pa_cons (pe_callTy call_list_of (by rfl) bi.list bt_list (pa_cons (pe_call G_l_one (hr.mono (by first | decide | omega)) rfl D_l_one.mg D_l_one.fn.kp D_l_one.bd .nil pass0 (pa_cons (pv 1) (pa_cons (pv 2) pa_nil))) pa_nil)) pa_nil)) (by rfl))
      (Evl.pss_cut (ps_if (pt_cmpR op_eq (pv 15) pe_int (nomark _))
        (pss_one (ps_set (i := 16) sc_law.nd rfl (Or.inl rfl) (pe_lst (pa_cons (pe_call G_l_one (hr.mono (by first | decide | omega)) rfl D_l_one.mg D_l_one.fn.kp D_l_one.bd .nil pass0 (pa_cons (pv 1) (pa_cons (pe_lst (pa_cons pe_str (pa_cons pe_str (pa_cons pe_str (pa_cons pe_str pa_nil))))) pa_nil))) (pa_cons (pe_cmpR op_eq (pe_call G_l_take (hr.mono (by first | decide | omega)) rfl D_l_take.mg D_l_take.fn.kp D_l_take.bd .nil pass0 (pa_cons (pv 1) (pa_cons pe_int pa_nil))) pe_int (nomark _)) pa_nil)))))
        pss_nil)
      (pss_cons (ps_for PassesOwn.never rfl (pi_range1 rfl bi.range (pa_cons (pe_call G_l_take (hr.mono (by first | decide | omega)) rfl D_l_take.mg D_l_take.fn.kp D_l_take.bd .nil pass0 (pa_cons (pv 1) (pa_cons pe_int pa_nil))) pa_nil)) (pg_name (i := 3) sc_law.nd rfl (Or.inl rfl))
        (pss_one (ps_asg (pe_call G_l_one (hr.mono (by first | decide | omega)) rfl D_l_one.mg D_l_one.fn.kp D_l_one.bd .nil pass0 (pa_cons (pv 1) (pa_cons (pe_op op_cat (pv 7) (pe_lst (pa_cons (pe_call G_l_deep (hr.mono (by first | decide | omega)) rfl D_l_deep.mg D_l_deep.fn.kp D_l_deep.bd .nil pass0 (pa_cons pe_int pa_nil)) (pa_cons (pe_op op_repL (pe_lst (pa_cons pe_int pa_nil)) pe_int) pa_nil)))) pa_nil))) (pg_sub (pv 16) (pe_call G_l_take (hr.mono (by first | decide | omega)) rfl D_l_take.mg D_l_take.fn.kp D_l_take.bd .nil pass0 (pa_cons (pv 1) (pa_cons (pe_callB call_len_seq (by rfl) bi.len bt_len (pa_cons (pv 16) pa_nil)) pa_nil))) set_list))))
      (pss_cons (ps_if (pt_not (pt_val (pe_callQ G_l_alike qu (hr.mono (by first | decide | omega)) rfl D_l_alike.mg D_l_alike.fn.kp D_l_alike.bd pass0 (pa_cons (pe_call G_l_tried (hr.mono (by first | decide | omega)) rfl D_l_tried.mg D_l_tried.fn.kp D_l_tried.bd .nil pass0 (pa_cons (pv 15) (pa_cons (pv 10) (pa_cons (pv 16) pa_nil)))) (pa_cons (pe_call G_l_due (hr.mono (by first | decide | omega)) rfl D_l_due.mg D_l_due.fn.kp D_l_due.bd .nil pass0 (pa_cons (pv 15) (pa_cons (pv 9) (pa_cons (pv 16) pa_nil)))) pa_nil)))))
        (pss_one (ps_ret pe_bl))
        pss_nil)
      (pss_one (ps_if (pt_not (pt_val (pe_callQ G_l_alike qu (hr.mono (by first | decide | omega)) rfl D_l_alike.mg D_l_alike.fn.kp D_l_alike.bd pass0 (pa_cons (pe_call G_l_faces (hr.mono (by first | decide | omega)) rfl D_l_faces.mg D_l_faces.fn.kp D_l_faces.bd .nil pass0 (pa_cons (pv 10) pa_nil)) (pa_cons (pv 9) pa_nil)))))
        (pss_one (ps_ret pe_bl))
        pss_nil)))))))))))))
  (pss_one (ps_ret pe_bl))))))))), ?_⟩
    refine ⟨_, rfl, a, ns, rfl, ha, by omega, fun b H1 x1 hb => ?_⟩
    refine ⟨rfl, fun fl ts H2 x2 nfl hfl hts => ?_⟩
    have hb2 := hb.to x2
    -- all planners
    refine ⟨2, rfl, by decide, by decide, for_range (n := 2) (fun i σ H' => ∃ y3 y4 y5 y6 y7 y8 y9 y10 y11 y12 y13 y14 y15 y16 : Option V, σ = [some (.ref a), some (.ref b), some (.ref fl), y3, y4, y5, y6, y7, y8, y9, y10, y11, y12, y13, y14, y15, y16] ∧ Ex H2 H') ?_ ?_ (fun σ H3 hf => ?_)⟩
    · exact ⟨_, _, _, _, _, _, _, _, _, _, _, _, _, _, rfl, Ex.refl H2⟩
    · rintro i σ H3 hi ⟨y3, y4, y5, y6, y7, y8, y9, y10, y11, y12, y13, y14, y15, y16, rfl, x3⟩
      refine ⟨rfl, fun l ps H4 x4 nl hl hps => ?_⟩
      refine ⟨_, rfl, l, rfl, ⟨_, SqL.of hl⟩, fun d nd => ?_⟩
      refine lc_list (xs := ps.map V.ref) (fun j H' => Ex H4 H' ∧ ∃ us : List Addr, H' d = some (.lst (us.map V.ref)) ∧ Paired (FaceAt H') us (allFaces.take j)) ?_ (fun j H' _ z => SqL.of (z.1 _ _ hl)) ?_ ?_
      · exact ⟨Ex.new nd, [], upd_same, .nil⟩
      · rintro j z H5 hj ⟨x5, us, hd, hus⟩
        obtain ⟨p, hpj, rfl⟩ : ∃ p, ps[j]? = some p ∧ z = V.ref p := by
          rw [List.getElem?_map] at hj
          obtain ⟨r, h1, h2⟩ := Option.map_eq_some_iff.mp hj
          exact ⟨r, h1, h2.symm⟩
        obtain ⟨G, hG, hp⟩ := Gx.paired_get hps hpj
        have ul : us.length ≤ 48 := by
          have := Paired.length hus
          rw [List.length_take] at this
          have e : allFaces.length = 48 := by decide
          omega
        refine ⟨rfl, _, rfl, p, G, rfl, hp.to x5, fun t H6 x6 ht => ?_⟩
        refine ⟨_, x6 _ _ hd, by rw [List.length_map]; exact Nat.lt_of_le_of_lt ul (by decide), (x5.trans x6).mut nd, us ++ [t], by rw [upd_same, List.map_append]; rfl, ?_⟩
        rw [takeS hG]
        have ei : ExI H6 (upd H6 d (.lst (us.map V.ref ++ [.ref t]))) := ExI.put (x6 _ _ hd) rfl
        exact paired_app (L2.Paired.mapP hus fun a F h => ei _ _ (x6 _ _ h) rfl) (.cons (ei _ _ ht rfl) .nil)
      · rintro H5 ⟨x5, us, hd, hus⟩
        have pl : (ps.map V.ref).length = allFaces.length := by rw [List.length_map]; exact Paired.length hps
        rw [pl, List.take_length] at hus
        have x25 := x3.trans (x4.trans x5)
        refine ⟨_, rfl, .ref d, .ref fl, .list (allFaces.map dF), rfl, .lst (SqL.of hd) (faces_dp hus), .lst (SqL.of (x25 _ _ hfl)) (faces_dp (L2.Paired.mapP hts fun a F h => h.to x25)), all_okD.1, all_okD.2.1, all_okD.2.2, _, rfl, if_f rfl ?_⟩
        refine ⟨_, rfl, .inl ⟨rfl, _, SqL.of (x5 _ _ hl)⟩, l, _, .non, rfl, rfl, x5 _ _ hl, ?_, _, _, _, _, _, _, _, _, _, _, _, _, _, _, rfl, x25.mut (none_back x3 nl)⟩
        rw [pl]; decide
    · obtain ⟨y3, y4, y5, y6, y7, y8, y9, y10, y11, y12, y13, y14, y15, y16, rfl, x3⟩ := hf
      have hb3 := hb2.to x3
      have hfl3 := x3 _ _ hfl
      have hts3 : Paired (FaceAt H3) ts allFaces := L2.Paired.mapP hts fun a F h => h.to x3
      refine fun p dx np ndx nex => ?_
      have ex : ∀ H' : Hp, (∀ b o, upd (upd H3 dx (.own p)) p (.ins C dx []) b = some o → b ≠ p → H' b = some o) → Ex H3 H' := fun H' fr b o h =>
        fr b o (by rw [upd_ne (ne_of_none h np), upd_ne (ne_of_none h ndx)]; exact h) (ne_of_none h np)
      refine ⟨p, dx, .str "free", .bl false, .bl false, .bl false, .bl false, rfl, upd_same, fun z hz H' fr => ?_, fun _ t H4 nt hp ht fr => ⟨rfl, ?_⟩, fun j hj => by rw [show badAt (.str "free") [.bl false, .bl false, .bl false, .bl false] = none from rfl] at hj; cases hj⟩
      · simp only [List.mem_cons, List.not_mem_nil, or_false] at hz
        rcases hz with rfl | rfl | rfl | rfl | rfl
        · exact Tells.str _
        · exact Tells.bl _
        · exact Tells.bl _
        · exact Tells.bl _
        · exact Tells.bl _
      · have x4 := ex H4 fr
        have hpl : PlnAt C H4 p ⟨"free", false, false, false, false⟩ := ⟨dx, t, hp, ht⟩
        refine ⟨_, rfl, p, ⟨"free", false, false, false, false⟩, rfl, hpl, fun u H5 x5 hu => ?_⟩
        refine ⟨(show 5 ≤ sizeLine from by decide), fun u2 nu2 => ?_⟩
        have x6 := Ex.new (o := .tup [.str "free", .bl false, .bl false, .bl false, .bl false]) nu2
        have g0 := (faces_ok ⟨"free", false, false, false, false⟩ (by decide)).1
        refine ⟨.ref u, .ref u2, dF ⟨"free", false, false, false, false⟩, rfl, face_dp (SqT.of (x6 _ _ hu)), face_dp (SqT.of upd_same), g0.1, g0.2.1, g0.2.2, _, rfl, if_f rfl ?_⟩
        have x46 := x4.trans (x5.trans x6)
        have hpl6 := hpl.to (x5.trans x6)
        generalize upd H5 u2 (.tup [.str "free", .bl false, .bl false, .bl false, .bl false]) = H6 at x46 hpl6 ⊢
        -- odd values
        refine ⟨by decide, fun t0 n0 => ⟨by decide, fun l0 nl0 => fun d0 nd0 => ⟨_, rfl, (show 17 ≤ sizeLine from by decide), fun od nod => ?_⟩⟩⟩
        have xa := Ex.new (o := .tup []) n0
        have xb := Ex.new (o := .lst []) nl0
        have xc := Ex.new (o := .dK []) nd0
        have f1 := (xb.trans xc) _ _ (upd_same (H := H6) (a := t0) (o := .tup []))
        have f2 := xc _ _ (upd_same (H := upd H6 t0 (.tup [])) (a := l0) (o := .lst []))
        have f3 := upd_same (H := upd (upd H6 t0 (.tup [])) l0 (.lst [])) (a := d0) (o := .dK [])
        have xabc := xa.trans (xb.trans xc)
        have hpl7 := hpl6.to xabc
        have x47 := x46.trans xabc
        generalize upd (upd (upd H6 t0 (.tup [])) l0 (.lst [])) d0 (.dK []) = H7 at f1 f2 f3 hpl7 x47 nod ⊢
        have tells : ∀ x ∈ ([.non, .bl true, .bl false, .str "free", .str "text", .str "every", .str "Free", .str "", .int 0, .int 1, .ref t0, .ref l0, .ref d0, .str "unknown", .str "early", .str "mode", .ref p] : List V), Tells K H7 x := fun x hx => by
          simp only [List.mem_cons, List.not_mem_nil, or_false] at hx
          rcases hx with rfl | rfl | rfl | rfl | rfl | rfl | rfl | rfl | rfl | rfl | rfl | rfl | rfl | rfl | rfl | rfl | rfl
          · exact Tells.non
          · exact Tells.bl _
          · exact Tells.bl _
          · exact Tells.str _
          · exact Tells.str _
          · exact Tells.str _
          · exact Tells.str _
          · exact Tells.str _
          · exact Tells.int _
          · exact Tells.int _
          · exact Tells.tup f1
          · exact Tells.lst f2
          · exact Tells.dK f3
          · exact Tells.str _
          · exact Tells.str _
          · exact Tells.str _
          · obtain ⟨dx', t', g1, g2⟩ := hpl7
            exact ⟨.ref C, Z.ty T_Planner.cl g1, Z.koS, Z.koB⟩
        have ol : ([.non, .bl true, .bl false, .str "free", .str "text", .str "every", .str "Free", .str "", .int 0, .int 1, .ref t0, .ref l0, .ref d0, .str "unknown", .str "early", .str "mode", .ref p] : List V).length = 17 := rfl
        generalize ([.non, .bl true, .bl false, .str "free", .str "text", .str "every", .str "Free", .str "", .int 0, .int 1, .ref t0, .ref l0, .ref d0, .str "unknown", .str "early", .str "mode", .ref p] : List V) = odds at tells ol ⊢
        have x8 := Ex.new (o := .lst odds) nod
        have hod : upd H7 od (.lst odds) od = some (.lst odds) := upd_same
        have tells : ∀ x ∈ odds, Tells K (upd H7 od (.lst odds)) x := fun x hx => (tells x hx).to x8
        have x38 := x47.trans x8
        have hbB := hb3.to x38
        have hflB := x38 _ _ hfl3
        have htsB : Paired (FaceAt (upd H7 od (.lst odds))) ts allFaces := L2.Paired.mapP hts3 fun a F h => h.to x38
        generalize upd H7 od (.lst odds) = HB at hod tells hbB hflB htsB ⊢
        have tsl : ts.length = 48 := Paired.length htsB
        refine ⟨6, rfl, by decide, by decide, for_range (n := 6) (fun i σ H' => ∃ y3 y8 y9 y10 y11 y12 y13 y14 y15 y16 : Option V, σ = [some (.ref a), some (.ref b), some (.ref fl), y3, y4, y5, some (.ref p), some (.ref od), y8, y9, y10, y11, y12, y13, y14, y15, y16] ∧ Ex HB H') ?_ ?_ (fun σ H' _ => k H')⟩
        · exact ⟨_, _, _, _, _, _, _, _, _, _, rfl, Ex.refl HB⟩
        · rintro i σ H0 hi ⟨y3, y8, y9, y10, y11, y12, y13, y14, y15, y16, rfl, xB⟩
          have pick : ∀ H', Ex HB H' → ∀ x ∈ ts.map V.ref, ∃ t G, x = V.ref t ∧ G ∈ allFaces ∧ FaceAt H' t G := fun H' e x hx => by
            obtain ⟨t, ht, rfl⟩ := List.mem_map.mp hx
            obtain ⟨G, hG, h⟩ := pair_pick htsB ht
            exact ⟨t, G, rfl, hG, h.to e⟩
          have tl : (ts.map V.ref).length = 48 := by rw [List.length_map]; exact tsl
          refine ⟨_, rfl, _, rfl, b, fl, _, rfl, hbB.to xB, SqL.of (xB _ _ hflB), by rw [tl]; decide, by rw [tl]; decide, fun z hz => ?_⟩
          obtain ⟨ft, G, rfl, hG, hft⟩ := pick H0 xB z hz
          have hGm := all_mem G hG
          refine ⟨_, rfl, ft, .str G.m, .bl G.u, .bl G.f, .bl G.b, .bl G.e, rfl, .inl hft, tells5 G, fun F0 _ hF _ q H1' e1 nq hq => ?_, fun j hj => nobad5 hGm hj⟩
          cases hF
          have xq := xB.trans e1
          have hft1 := hft.to e1
          -- all other ones
          refine ⟨_, rfl, fl, rfl, ⟨_, SqL.of (xq _ _ hflB)⟩, for_list (xs := ts.map V.ref) (fun c σ H' => ∃ y11 y12 y13 : Option V, σ = [some (.ref a), some (.ref b), some (.ref fl), y3, y4, y5, some (.ref p), some (.ref od), some (.int (0 + (i : Nat))), some (.ref ft), some (.ref q), y11, y12, y13, y14, y15, y16] ∧ Ex H1' H') ?_ (fun c σ H' _ z => by obtain ⟨_, _, _, _, e⟩ := z; exact SqL.of (e _ _ (xq _ _ hflB))) ?_ ?_⟩
          · exact ⟨_, _, _, rfl, Ex.refl H1'⟩
          · rintro c z σ H2' hc ⟨y11, y12, y13, rfl, e2⟩
            obtain ⟨ot, G2, rfl, hG2, hot⟩ := pick H2' (xq.trans e2) z (List.mem_of_getElem? hc)
            have hG2m := all_mem G2 hG2
            refine ⟨_, rfl, ot, .str G2.m, .bl G2.u, .bl G2.f, .bl G2.b, .bl G2.e, rfl, .inl hot, tells5 G2, fun F0 _ hF _ o H3' e3 no ho => ?_, fun j hj => nobad5 hG2m hj⟩
            cases hF
            have e13 := e2.trans e3
            have hq3 := hq.to e13
            have hft3 := hft1.to e13
            have hot3 := hot.to e3
            obtain ⟨dq, tq, gq1, gq2⟩ := hq3
            obtain ⟨do_, to_, go1, go2⟩ := ho
            have hq3 : PlnAt C H3' q G := ⟨dq, tq, gq1, gq2⟩
            have ho : PlnAt C H3' o G2 := ⟨do_, to_, go1, go2⟩
            have tyo : TyX K H3' (.ref o) (.ref C) := Z.ty T_Planner.cl go1
            refine ⟨_, rfl, _, rfl, dF G, dF G2, face_dp (SqT.of hft3), face_dp (SqT.of hot3), (faces_ok G hG).1.1, (faces_ok G2 hG2).1.1, _, _, rfl, ?_⟩
            rw [dF_eqv G hG G2 hG2]
            refine ⟨_, rfl, _, rfl, q, dq, _, _, rfl, gq1, tyo, nf_self, q, G, .ref o, rfl, hq3, .inl ⟨o, G2, rfl, ho, ?_⟩⟩
            refine ⟨_, rfl, _, rfl, q, dq, _, _, rfl, gq1, tyo, nf_self, q, G, .ref o, rfl, hq3, .inl ⟨o, G2, rfl, ho, _, rfl, ?_⟩⟩
            have okp := (bools_ok (decide (G = G2)) (!decide (G = G2))).2
            have okb := (bools_ok (within G G2) true).1
            generalize decide (G = G2) = same at okp ⊢
            refine ⟨sz2, fun l1 nl1 => ⟨_, rfl, _, rfl, same, rfl, sz2, fun l2 nl2 => ?_⟩⟩
            have xl1 := Ex.new (o := .lst [.bl same, .bl !same]) nl1
            have xl2 := Ex.new (o := .lst [.bl same, .bl !same]) nl2
            have hl1 := xl2 _ _ (upd_same (H := H3') (a := l1) (o := .lst [.bl same, .bl !same]))
            have hl2 : upd (upd H3' l1 (.lst [.bl same, .bl !same])) l2 (.lst [.bl same, .bl !same]) l2 = some (.lst [.bl same, .bl !same]) := upd_same
            have x4 := xl1.trans xl2
            generalize upd (upd H3' l1 (.lst [.bl same, .bl !same])) l2 (.lst [.bl same, .bl !same]) = H4' at hl1 hl2 x4 ⊢
            refine ⟨.ref l1, .ref l2, .list [.bool same, .bool !same], rfl, .lst (SqL.of hl1) (.cons (.bl _) (.cons (.bl _) .nil)), .lst (SqL.of hl2) (.cons (.bl _) (.cons (.bl _) .nil)), okp.1, okp.2.1, okp.2.2, _, rfl, if_f rfl ?_⟩
            refine ⟨_, rfl, q, dq, _, rfl, x4 _ _ gq1, rfl, _, rfl, q, o, G, G2, rfl, hq3.to x4, ho.to x4, fun H5' e5 => ⟨_, rfl, _, rfl, ft, ot, G, G2, rfl, (hft3.to x4).to e5, (hot3.to x4).to e5, fun H6' e6 => ?_⟩⟩
            exact ⟨.bl (within G G2), .bl (within G G2), .bool (within G G2), rfl, .bl _, .bl _, okb.1, okb.2.1, okb.2.2, _, rfl, if_f rfl ⟨_, _, _, rfl, e13.trans (x4.trans (e5.trans e6))⟩⟩
          · rintro σ H2' ⟨y11, y12, y13, rfl, e2⟩
            have hft2 := hft1.to e2
            have hq2 := hq.to e2
            obtain ⟨dq, tq, gq1, gq2⟩ := hq2
            have hq2 : PlnAt C H2' q G := ⟨dq, tq, gq1, gq2⟩
            have okf := faces_ok G hG
            refine ⟨_, rfl, _, rfl, q, dq, _, .type "tuple", rfl, gq1, .base (.tup hft2), Z.nfT, q, G, .ref ft, rfl, hq2, .inr ⟨.type "tuple", .base (.tup hft2), Z.koT, _, rfl, if_f rfl ?_⟩⟩
            refine ⟨_, rfl, q, dq, _, .type "NoneType", rfl, gq1, .base .non, Z.nfN, q, G, .non, rfl, hq2, .inr ⟨.type "NoneType", .base .non, Z.koN, _, rfl, if_f rfl ?_⟩⟩
            refine ⟨_, rfl, q, G, rfl, hq2, fun t3 H3' e3 ht3 => ⟨_, rfl, .ref t3, .ref ft, dF G, rfl, face_dp (SqT.of ht3), face_dp (SqT.of (hft2.to e3)), okf.1.1, okf.1.2.1, okf.1.2.2, _, rfl, if_f rfl ?_⟩⟩
            have xq3 := xq.trans (e2.trans e3)
            have hq3 := hq2.to e3
            have hft3 := hft2.to e3
            refine ⟨12, rfl, by decide, by decide, for_range (n := 12) (fun c σ H' => ∃ y3 y14 y15 y16 : Option V, σ = [some (.ref a), some (.ref b), some (.ref fl), y3, y4, y5, some (.ref p), some (.ref od), some (.int (0 + (i : Nat))), some (.ref ft), some (.ref q), y11, y12, y13, y14, y15, y16] ∧ Ex H3' H') ?_ ?_ (fun σ H' hf => ?_)⟩
            · exact ⟨_, _, _, _, rfl, Ex.refl H3'⟩
            · rintro c σ H4' hc ⟨y3, y14, y15, y16, rfl, e4⟩
              have xq4 := xq3.trans e4
              have hb4 := hbB.to xq4
              refine ⟨_, rfl, b, 3, rfl, hb4, by decide, by decide, fun way w0 w1 => ?_⟩
              refine ⟨_, rfl, _, rfl, b, fl, _, rfl, hb4, SqL.of (xq4 _ _ hflB), by rw [tl]; decide, by rw [tl]; decide, fun z hz => ?_⟩
              obtain ⟨gt, G5, rfl, hG5, hgt⟩ := pick H4' xq4 z hz
              refine ⟨gt, _, rfl, .inr (SqT.of hgt), fun sl nsl => ⟨_, _, rfl, ?_⟩⟩
              have x5 := Ex.new (o := .lst G5.vs) nsl
              have hsl : upd H4' sl (.lst G5.vs) sl = some (.lst G5.vs) := upd_same
              have t5 : ∀ x ∈ G5.vs, Tells K (upd H4' sl (.lst G5.vs)) x := tells5 G5
              generalize upd H4' sl (.lst G5.vs) = H5' at x5 hsl t5 ⊢
              have xq5 := xq4.trans x5
              have hb5 := hb4.to x5
              refine ⟨fun σ H' => ∃ (s2 : Addr) (xs : List V), σ = [some (.ref a), some (.ref b), some (.ref fl), y3, y4, y5, some (.ref p), some (.ref od), some (.int (0 + (i : Nat))), some (.ref ft), some (.ref q), y11, y12, y13, some (.int (0 + (c : Nat))), some (.int way), some (.ref s2)] ∧ Ex H4' H' ∧ H4' s2 = none ∧ H' s2 = some (.lst xs) ∧ (∀ x ∈ xs, Tells K H' x) ∧ (way = 0 ∧ xs.length = 5 ∨ way = 1 ∧ xs.length = 5 ∨ way = 2 ∧ xs.length = 2), ?_, ?_⟩
              · refine ⟨_, rfl, rfl, _, rfl, if_d (fun h2 => ?_) (fun h2 => ?_)⟩
                · have h2 : way = 2 := V.int.inj h2
                  subst h2
                  refine ⟨_, rfl, by decide, fun wl nwl => ?_⟩
                  have xw := Ex.new (o := .lst [.str "unknown", .str "folds", .str "beneath", .str "early"]) nwl
                  have hwl : upd H5' wl (.lst [.str "unknown", .str "folds", .str "beneath", .str "early"]) wl = some (.lst (truthsL.map V.str)) := upd_same
                  generalize upd H5' wl (.lst [.str "unknown", .str "folds", .str "beneath", .str "early"]) = H6' at xw hwl ⊢
                  have hb6 := hb5.to xw
                  refine ⟨b, wl, _, rfl, hb6, SqL.of hwl, by decide, by decide, fun z hz => ?_⟩
                  obtain ⟨wz, _, rfl⟩ := List.mem_map.mp hz
                  refine ⟨_, rfl, b, 2, rfl, hb6, by decide, by decide, fun y y0 y1 => ⟨rfl, sz2, fun s2 ns2 => ?_⟩⟩
                  have x56 := x5.trans xw
                  refine ⟨s2, _, rfl, x56.trans (Ex.new ns2), none_back x56 ns2, upd_same, fun x hx => ?_, .inr (.inr ⟨rfl, rfl⟩)⟩
                  simp only [List.mem_cons, List.not_mem_nil, or_false] at hx
                  rcases hx with rfl | rfl
                  · exact Tells.str _
                  · exact Tells.bl _
                · refine ⟨sl, G5.vs, rfl, x5, nsl, hsl, t5, ?_⟩
                  have g5 : G5.vs.length = 5 := rfl
                  rcases Int.lt_or_le way 1 with h | h
                  · exact .inl ⟨by omega, g5⟩
                  · refine .inr (.inl ⟨?_, g5⟩)
                    have : way ≠ 2 := fun h => h2 (congrArg V.int h)
                    omega
              · rintro σ H6' ⟨s2, xs, rfl, e6, ns2, hs2, t6, hw⟩
                have xq6 := xq4.trans e6
                have hb6 := hb4.to e6
                refine ⟨_, rfl, b, 3, rfl, hb6, by decide, by decide, fun m m0 m1 => ⟨m, rfl, by omega, by omega, ?_⟩⟩
                refine for_range (n := m.toNat) (fun r σ H' => ∃ (y3 : Option V) (zs : List V), σ = [some (.ref a), some (.ref b), some (.ref fl), y3, y4, y5, some (.ref p), some (.ref od), some (.int (0 + (i : Nat))), some (.ref ft), some (.ref q), y11, y12, y13, some (.int (0 + (c : Nat))), some (.int way), some (.ref s2)] ∧ Ex H4' H' ∧ H' s2 = some (.lst zs) ∧ (∀ x ∈ zs, Tells K H' x) ∧ zs.length = xs.length) ?_ ?_ ?_
                · exact ⟨_, xs, rfl, e6, hs2, t6, rfl⟩
                · rintro r σ H7' hr' ⟨y3', zs, rfl, e7, hs7, t7, l7⟩
                  have xq7 := xq4.trans e7
                  have zl5 : 0 < zs.length ∧ zs.length ≤ 5 := by omega
                  refine ⟨_, rfl, _, rfl, 20, rfl, by decide, fun dl dxs H8' e8 hdl => ⟨sz1, fun zl nzl => ?_⟩⟩
                  have xz := Ex.new (o := .lst [.int 0]) nzl
                  have hzl : upd H8' zl (.lst [.int 0]) zl = some (.lst [.int 0]) := upd_same
                  have hdl9 := xz _ _ hdl
                  generalize upd H8' zl (.lst [.int 0]) = H9' at xz hzl hdl9 ⊢
                  refine ⟨zl, 4000, [.int 0], rfl, rfl, SqL.of hzl, by decide, by decide, by decide, fun rl nrl => ⟨sz2, fun l2 nl2 => ?_⟩⟩
                  generalize (List.replicate (4000 : Int).toNat [V.int 0]).flatten = big at nl2 ⊢
                  have xr := Ex.new (o := .lst big) nrl
                  have xl := Ex.new (o := .lst [.ref dl, .ref rl]) nl2
                  have hrl := xl _ _ (upd_same (H := H9') (a := rl) (o := .lst big))
                  have hl2 : upd (upd H9' rl (.lst big)) l2 (.lst [.ref dl, .ref rl]) l2 = some (.lst [.ref dl, .ref rl]) := upd_same
                  have hdl10 := (xr.trans xl) _ _ hdl9
                  have x710 := e8.trans (xz.trans (xr.trans xl))
                  generalize upd (upd H9' rl (.lst big)) l2 (.lst [.ref dl, .ref rl]) = H10' at hrl hl2 hdl10 x710 ⊢
                  have xq10 := xq7.trans x710
                  refine ⟨od, l2, odds, _, rfl, rfl, xq10 _ _ hod, hl2, by rw [ol]; exact (show 17 + 2 ≤ sizeLine from by decide), fun cat ncat => ?_⟩
                  have xc := Ex.new (o := .lst (odds ++ [.ref dl, .ref rl])) ncat
                  have hcat : upd H10' cat (.lst (odds ++ [.ref dl, .ref rl])) cat = some (.lst (odds ++ [.ref dl, .ref rl])) := upd_same
                  have hrl11 := xc _ _ hrl
                  have hdl11 := xc _ _ hdl10
                  have x711 := x710.trans xc
                  generalize upd H10' cat (.lst (odds ++ [.ref dl, .ref rl])) = H11' at hcat hrl11 hdl11 x711 ⊢
                  have xq11 := xq7.trans x711
                  have hb11 := hbB.to xq11
                  have hs11 := x711 _ _ hs7
                  refine ⟨b, cat, _, rfl, hb11, SqL.of hcat, by rw [List.length_append, ol]; exact (show 0 < 17 + 2 from by decide), by rw [List.length_append, ol]; exact (show 17 + 2 < 100000 from by decide), fun z hz => ?_⟩
                  have tz : Tells K H11' z := by
                    rcases List.mem_append.mp hz with g | g
                    · exact (tells z g).to xq11
                    · simp only [List.mem_cons, List.not_mem_nil, or_false] at g
                      rcases g with rfl | rfl
                      · exact Tells.lst hdl11
                      · exact Tells.lst hrl11
                  refine ⟨_, rfl, _, rfl, _, rfl, s2, zs, rfl, .inl (SqL.of hs11), b, _, rfl, hb11, by omega, by omega, fun j j0 j1 => ?_⟩
                  refine ⟨s2, zs, j, j.toNat, rfl, rfl, hs11, ?_, ?_⟩
                  · unfold ixN
                    rw [if_pos j0, if_pos (by omega)]
                  · refine ⟨_, zs.set j.toNat z, rfl, (e7.trans x711).mut ns2, upd_same, fun x hx => tells_put ?_ hs11, by rw [List.length_set]; exact l7⟩
                    rcases List.mem_or_eq_of_mem_set hx with g | g
                    · exact (t7 x g).to x711
                    · rw [g]; exact tz
                · rintro σ H7' ⟨y3', zs, rfl, e7, hs7, t7, l7⟩
                  rw [← l7] at hw
                  obtain ⟨rr, hrr, okr⟩ := outc_ok hGm hw
                  have xq7 := xq4.trans e7
                  have e37 := e4.trans e7
                  refine ⟨_, rfl, _, rfl, _, rfl, way, q, s2, G, zs, rfl, hq3.to e37, hGm, hs7, t7, hw, fun r hr ta H8' e8 h8 => ?_⟩
                  have er : r = rr := by rw [hrr] at hr; exact (Option.some.inj hr).symm
                  rw [er] at h8
                  refine ⟨_, rfl, _, rfl, _, rfl, way, ft, s2, G, zs, rfl, (hft3.to e37).to e8, e8 _ _ hs7, fun x hx => (t7 x hx).to e8, hw, fun r2 hr2 ua H9' e9 h9 => ?_⟩
                  have er2 : r2 = rr := by rw [hrr] at hr2; exact (Option.some.inj hr2).symm
                  rw [er2] at h9
                  refine ⟨.ref ta, .ref ua, resD rr, rfl, (resAt_dp h8).to e9, resD_dp h9, okr.1, okr.2.1, okr.2.2, _, rfl, if_f rfl ?_⟩
                  have e39 := e37.trans (e8.trans e9)
                  refine ⟨_, rfl, q, G, rfl, hq3.to e39, fun t9 Hx ex9 ht9 => ⟨_, rfl, .ref t9, .ref ft, dF G, rfl, face_dp (SqT.of ht9), face_dp (SqT.of ((hft3.to e39).to ex9)), okf.1.1, okf.1.2.1, okf.1.2.2, _, rfl, if_f rfl ?_⟩⟩
                  exact ⟨_, _, _, _, rfl, e39.trans ex9⟩
            · obtain ⟨y3, y14, y15, y16, rfl, e4⟩ := hf
              exact ⟨_, _, _, _, _, _, _, _, _, _, rfl, xq3.trans e4⟩
end
end K41

set_option Elab.async false
set_option linter.all false
set_option maxRecDepth 100000
set_option maxHeartbeats 8000000
namespace K41
open PySem PySem.Spec PyProof.Rows L2 Evl Gx
theorem isdef_mk {K : PySem.W.Frag} {x qual : Str} {st : Stmt} {f : Addr} {oc : Value} {od : Option Addr} {kV doc pm : Value} {an : Option Addr} {cdv ct : Value} {osl : Array (Option Value)}
    (l : K.lookup f = some ⟨oc, od, .func (PySem.W.fnOf x qual (defArgs st) (defBody st) (defScope st) .none kV doc pm an cdv ct), osl⟩)
    (c : PySem.W.codeIn K cdv qual = true) (k : PySem.W.keepIn K (.ref f) = true) : IsDef K x qual st f := ⟨_, _, _, _, _, _, _, _, _, l, c, k⟩
theorem cls_mk {K : PySem.W.Frag} {C : Addr} {nm q : Str} {N : Addr} {bs bm : List Value} {sn : List Str} {sub : List Value} {ab : Bool} {col : Option Bool} {dd : Option Addr} {k0 k1 k2 k3 k5 : Option Value}
    (l : K.lookup C = some (excClassObj nm q C N bs bm true sn sub ab col dd k0 k1 k2 k3 k5 "ValueError.__new__")) (v : HandSPX.refsVE bm = true) :
    ∃ nm q N bs bm sn sub ab col dd k0 k1 k2 k3 k5, K.lookup C = some (excClassObj nm q C N bs bm true sn sub ab col dd k0 k1 k2 k3 k5 "ValueError.__new__") ∧ HandSPX.refsVE bm = true :=
  ⟨_, _, _, _, _, _, _, _, _, _, _, _, _, _, _, l, v⟩
/-- the error class's own clause takes it -/
theorem exm_own {K : PySem.W.Frag} {C : Addr} (h1 : PySem.W.subIn K (.ref C) (.type "BaseException") = some true) (h2 : PySem.W.isClsIn K C = true)
    (h3 : PySem.W.typeIn K (.ref C) = some (.type "type")) (h4 : PySem.W.subIn K (.ref C) (.ref C) = some true) : PySem.W.exmOne K (.ref C) (.ref C) = some true := by
  have g : (PySem.W.clsIn K C).isSome = true := h2
  have b : ((PySem.W.clsIn K C).isSome && PySem.W.typeIn K (.ref C) == some (.type "type")) = true := by rw [g, h3]; rfl
  have a : (PySem.W.subIn K (.ref C) (.type "BaseException") == some true) = true := by rw [h1]; rfl
  show (if (PySem.W.subIn K (.ref C) (.type "BaseException") == some true) = true then
    (if ((PySem.W.clsIn K C).isSome && PySem.W.typeIn K (.ref C) == some (.type "type")) = true then PySem.W.subIn K (.ref C) (.ref C) else none) else none) = some true
  rw [if_pos a, if_pos b]
  exact h4
theorem err_mk {K : PySem.W.Frag} {h : Heap} {mg : Str → Option Value} {x qual fl : Str} {ps : List Str} {st : Stmt} {C fI : Addr} (X : K.In h) (G : h.Ns mainGlobals mg)
    (aC : PySem.W.nsIn K mainGlobals x = some (some (.ref C)))
    (cC : ∃ nm q N bs bm sn sub ab col dd k0 k1 k2 k3 k5, K.lookup C = some (excClassObj nm q C N bs bm true sn sub ab col dd k0 k1 k2 k3 k5 "ValueError.__new__") ∧ HandSPX.refsVE bm = true)
    (sa : PySem.W.findIn K (.ref C) "__setattr__" = some (some (.builtin "object.__setattr__")))
    (ga : PySem.W.findIn K (.ref C) "__getattribute__" = some (some (.builtin "BaseException.__getattribute__")))
    (gg : PySem.W.findIn K (.ref C) "__getattr__" = some none) (no : PySem.W.findIn K (.ref C) fl = some none)
    (iC : PySem.W.findIn K (.ref C) "__init__" = some (some (.ref fI))) (tI : PySem.W.typeIn K (.ref fI) = some (.type "function"))
    (kC : PySem.W.keepIn K (.ref C) = true) (eC : PySem.W.subIn K (.ref C) (.type "BaseException") = some true) (tC : PySem.W.typeIn K (.ref C) = some (.type "type"))
    (hC : PySem.W.hasDictIn K C = true) (oC : PySem.W.isClsIn K C = true) (sC : PySem.W.subIn K (.ref C) (.ref C) = some true)
    (d : IsDef K "__init__" qual st fI)
    (hb : ∀ (kV doc pm : Value) (an : Option Addr) (cdv ct : Value) (us : List Value), us.length = ps.length →
      bindArgs (PySem.W.fnOf "__init__" qual (defArgs st) (defBody st) (defScope st) .none kV doc pm an cdv ct) ⟨us, []⟩ = pure (ps.zip us)) :
    ∃ fd, Err K mg x qual fl ps st C fI fd := by
  obtain ⟨fd, F⟩ := d.fn
  exact ⟨fd, ⟨cC, sa, eC, tC, kC⟩, PySem.W.mg_of X G aC, iC, tI, no, ⟨ga, gg, eC, hC⟩, exm_own eC oC tC sC, F, F.binds hb⟩
theorem conT_mk {K : PySem.W.Frag} {h : Heap} {mg : Str → Option Value} {x : Str} {a : Addr} {xs : List V} {dd : Option Addr} {its : Array Value} {n : Nat} {sl : Array (Option Value)}
    (X : K.In h) (G : h.Ns mainGlobals mg) (aC : PySem.W.nsIn K mainGlobals x = some (some (.ref a))) (l : K.lookup a = some ⟨.type "tuple", dd, .seq its n, sl⟩)
    (v : Vals xs its.toList) (sz : its.size ≤ sizeLine) : ConT K mg x a xs := ⟨PySem.W.mg_of X G aC, fun H => .inr ⟨_, its, n, l, rfl, rfl, sz, v⟩⟩
def kwsL : List (Str × V) := [("unknown", .bl false), ("folds", .bl false), ("beneath", .bl false), ("early", .bl false)]
def IsDefK (K : PySem.W.Frag) (x qual : Str) (st : Stmt) (f : Addr) (kws : List (Str × V)) : Prop := ∃ oc od kV doc pm an cdv ct osl,
  K.lookup f = some ⟨oc, od, .func (PySem.W.fnOf x qual (defArgs st) (defBody st) (defScope st) .none kV doc pm an cdv ct), osl⟩ ∧ PySem.W.codeIn K cdv qual = true ∧ KwdV K kV kws ∧ PySem.W.keepIn K (.ref f) = true
theorem isdefk_mk {K : PySem.W.Frag} {x qual : Str} {st : Stmt} {f D : Addr} {oc : Value} {od : Option Addr} {doc pm : Value} {an : Option Addr} {cdv ct : Value} {osl : Array (Option Value)} {kws : List (Str × V)}
    (l : K.lookup f = some ⟨oc, od, .func (PySem.W.fnOf x qual (defArgs st) (defBody st) (defScope st) .none (.ref D) doc pm an cdv ct), osl⟩)
    (c : PySem.W.codeIn K cdv qual = true) (k : PySem.W.keepIn K (.ref f) = true) (kv : ∀ q ∈ kws, ∃ u, PySem.W.nsIn K D q.1 = some (some u) ∧ RelV q.2 u) : IsDefK K x qual st f kws :=
  ⟨_, _, _, _, _, _, _, _, _, l, c, .inr ⟨D, rfl, kv⟩, k⟩
theorem init_mk {K : PySem.W.Frag} {f : Addr} (d : IsDefK K "__init__" "Planner.__init__" s_Planner___init f kwsL) :
    ∃ fd, Fun K "__init__" "Planner.__init__" s_Planner___init f fd ∧ ∃ ds, L2.Binds K fd pPln ds ∧ Vals falses ds := by
  obtain ⟨oc, od, kV, doc, pm, an, cdv, ct, osl, l, c, kv, k⟩ := d
  refine ⟨_, ⟨⟨oc, od, kV, doc, pm, an, cdv, ct, osl, rfl, l, c⟩, k⟩, ?_⟩
  have F : FunD K "__init__" "Planner.__init__" (defArgs s_Planner___init) (defBody s_Planner___init) (defScope s_Planner___init) [] kwsL f _ := ⟨⟨oc, od, .none, kV, doc, pm, an, cdv, ct, osl, rfl, l, c, .inl ⟨rfl, rfl⟩, kv⟩, k⟩
  obtain ⟨ds, v, b⟩ := F.binds0 (ps := pPln) 2 (by simp [kwsL]) rfl fun D doc pm an cdv ct us ks h1 h2 => by
    match us, ks, h1, h2 with
    | [u1, u2], [k1, k2, k3, k4], _, _ =>
      refine ⟨_, _, _, _, _, _, rfl, rfl, _, _, _, _, _, _, rfl, rfl, _, _, _, _, _, _, rfl, rfl, _, _, _, _, _, _, rfl, rfl, ?_⟩
      rfl
  exact ⟨ds, b, v⟩
theorem prop_mk {K : PySem.W.Frag} {C p g : Addr} {nm : Str} {dd : Option Addr} {vs : Array Value} {sl : Array (Option Value)} {rest : List Value} (a : PySem.W.findIn K (.ref C) nm = some (some (.ref p)))
    (l : K.lookup p = some ⟨.type "property", dd, .fields vs, sl⟩) (e : vs.toList = .ref g :: rest) (b : PySem.W.specialIn K (.ref p) "__get__" = some (some (.builtin "property.__get__"))) (t : PySem.W.takesIn K (.ref p) = some true) : PropOf K C nm p g := by
  refine ⟨a, b, t, rest, ?_⟩
  unfold PySem.W.recIn
  rw [l]
  show (if ("property" == "property") = true then some vs.toList else none) = _
  rw [if_pos (by decide), e]
theorem pr_mk {K : PySem.W.Frag} {C p f : Addr} {nm qual : Str} {st : Stmt} (h : PropOf K C nm p f) (d : IsDef K nm qual st f)
    (hb : ∀ (kV doc pm : Value) (an : Option Addr) (cdv ct : Value) (us : List Value), us.length = 1 →
      bindArgs (PySem.W.fnOf nm qual (defArgs st) (defBody st) (defScope st) .none kV doc pm an cdv ct) ⟨us, []⟩ = pure ((["self"] : List Str).zip us)) : ∃ fd, PrDef K C nm st qual p f fd := by
  obtain ⟨fd, F⟩ := d.fn
  exact ⟨fd, h, F, F.binds hb⟩
theorem exm_two {K : PySem.W.Frag} {C A : Addr} (h1 : PySem.W.subIn K (.ref A) (.type "BaseException") = some true) (h2 : PySem.W.isClsIn K A = true)
    (h3 : PySem.W.typeIn K (.ref A) = some (.type "type")) (h4 : PySem.W.subIn K (.ref C) (.ref A) = some true) : PySem.W.exmOne K (.ref C) (.ref A) = some true := by
  have g : (PySem.W.clsIn K A).isSome = true := h2
  have b : ((PySem.W.clsIn K A).isSome && PySem.W.typeIn K (.ref A) == some (.type "type")) = true := by rw [g, h3]; rfl
  have a : (PySem.W.subIn K (.ref A) (.type "BaseException") == some true) = true := by rw [h1]; rfl
  show (if (PySem.W.subIn K (.ref A) (.type "BaseException") == some true) = true then
    (if ((PySem.W.clsIn K A).isSome && PySem.W.typeIn K (.ref A) == some (.type "type")) = true then PySem.W.subIn K (.ref C) (.ref A) else none) else none) = some true
  rw [if_pos a, if_pos b]
  exact h4
theorem all_ok {P : Program} {w : World} {K : PySem.W.Frag} {h : Heap} {mg : Str → Option Value} {fa f_is_mode f_planner f_all_planners f_l_bag f_l_take f_l_alike f_l_one f_l_deep f_l_faces f_l_made f_l_every_face f_l_is_in_face f_l_tried f_l_due f_law C_Planner f_Planner_with_mode f_Planner_with_truth f_Planner_is_within f_Planner___eq a_MODES a_TRUTHS C_Wrong fI_Wrong C_AskError C_Errs f_Planner___init pp_mode pf_mode pp_unknown pf_unknown pp_folds pf_folds pp_beneath pf_beneath pp_early pf_early : Addr} (X : K.In h) (G : h.Ns mainGlobals mg) (hfa : mg "law" = some (.ref fa))
    (a_is_mode : PySem.W.nsIn K mainGlobals "_is_mode" = some (some (.ref f_is_mode))) (d_is_mode : IsDef K "_is_mode" "_is_mode" s_is_mode f_is_mode)
    (a_planner : PySem.W.nsIn K mainGlobals "_planner" = some (some (.ref f_planner))) (d_planner : IsDef K "_planner" "_planner" s_planner f_planner)
    (a_all_planners : PySem.W.nsIn K mainGlobals "all_planners" = some (some (.ref f_all_planners))) (d_all_planners : IsDef K "all_planners" "all_planners" s_all_planners f_all_planners)
    (a_l_bag : PySem.W.nsIn K mainGlobals "_law_bag" = some (some (.ref f_l_bag))) (d_l_bag : IsDef K "_law_bag" "_law_bag" s_l_bag f_l_bag)
    (a_l_take : PySem.W.nsIn K mainGlobals "_law_take" = some (some (.ref f_l_take))) (d_l_take : IsDef K "_law_take" "_law_take" s_l_take f_l_take)
    (a_l_alike : PySem.W.nsIn K mainGlobals "_law_alike" = some (some (.ref f_l_alike))) (d_l_alike : IsDef K "_law_alike" "_law_alike" s_l_alike f_l_alike)
    (a_l_one : PySem.W.nsIn K mainGlobals "_law_one" = some (some (.ref f_l_one))) (d_l_one : IsDef K "_law_one" "_law_one" s_l_one f_l_one)
    (a_l_deep : PySem.W.nsIn K mainGlobals "_law_deep" = some (some (.ref f_l_deep))) (d_l_deep : IsDef K "_law_deep" "_law_deep" s_l_deep f_l_deep)
    (a_l_faces : PySem.W.nsIn K mainGlobals "_law_faces" = some (some (.ref f_l_faces))) (d_l_faces : IsDef K "_law_faces" "_law_faces" s_l_faces f_l_faces)
    (a_l_made : PySem.W.nsIn K mainGlobals "_law_made" = some (some (.ref f_l_made))) (d_l_made : IsDef K "_law_made" "_law_made" s_l_made f_l_made)
    (a_l_every_face : PySem.W.nsIn K mainGlobals "_law_every_face" = some (some (.ref f_l_every_face))) (d_l_every_face : IsDef K "_law_every_face" "_law_every_face" s_l_every_face f_l_every_face)
    (a_l_is_in_face : PySem.W.nsIn K mainGlobals "_law_is_in_face" = some (some (.ref f_l_is_in_face))) (d_l_is_in_face : IsDef K "_law_is_in_face" "_law_is_in_face" s_l_is_in_face f_l_is_in_face)
    (a_l_tried : PySem.W.nsIn K mainGlobals "_law_tried" = some (some (.ref f_l_tried))) (d_l_tried : IsDef K "_law_tried" "_law_tried" s_l_tried f_l_tried)
    (a_l_due : PySem.W.nsIn K mainGlobals "_law_due" = some (some (.ref f_l_due))) (d_l_due : IsDef K "_law_due" "_law_due" s_l_due f_l_due)
    (a_law : PySem.W.nsIn K mainGlobals "law" = some (some (.ref f_law))) (d_law : IsDef K "law" "law" s_law f_law)
    (b_len : PySem.W.nsIn K mainGlobals "len" = some none)
    (b_abs : PySem.W.nsIn K mainGlobals "abs" = some none)
    (b_max : PySem.W.nsIn K mainGlobals "max" = some none)
    (b_min : PySem.W.nsIn K mainGlobals "min" = some none)
    (b_repr : PySem.W.nsIn K mainGlobals "repr" = some none)
    (b_int : PySem.W.nsIn K mainGlobals "int" = some none)
    (b_tuple : PySem.W.nsIn K mainGlobals "tuple" = some none)
    (b_list : PySem.W.nsIn K mainGlobals "list" = some none)
    (b_dict : PySem.W.nsIn K mainGlobals "dict" = some none)
    (b_isinstance : PySem.W.nsIn K mainGlobals "isinstance" = some none)
    (b_sorted : PySem.W.nsIn K mainGlobals "sorted" = some none)
    (b_sum : PySem.W.nsIn K mainGlobals "sum" = some none)
    (b_all : PySem.W.nsIn K mainGlobals "all" = some none)
    (b_any : PySem.W.nsIn K mainGlobals "any" = some none)
    (b_range : PySem.W.nsIn K mainGlobals "range" = some none)
    (b_enumerate : PySem.W.nsIn K mainGlobals "enumerate" = some none)
    (b_zip : PySem.W.nsIn K mainGlobals "zip" = some none)
    (b_bool : PySem.W.nsIn K mainGlobals "bool" = some none)
    (b_str : PySem.W.nsIn K mainGlobals "str" = some none)
    (b_set : PySem.W.nsIn K mainGlobals "set" = some none)
    (aC_Planner : PySem.W.nsIn K mainGlobals "Planner" = some (some (.ref C_Planner))) (T0_Planner : Cls K C_Planner) (M_Planner : Mk K C_Planner f_Planner___init)
    (N_Planner__mode : NoAttr K C_Planner "_mode")
    (N_Planner__truths : NoAttr K C_Planner "_truths")
    (am_Planner_with_mode : PySem.W.findIn K (.ref C_Planner) "with_mode" = some (some (.ref f_Planner_with_mode))) (im_Planner_with_mode : PySem.W.isFn K (.ref f_Planner_with_mode) = true) (d_Planner_with_mode : IsDef K "with_mode" "Planner.with_mode" s_Planner_with_mode f_Planner_with_mode)
    (am_Planner_with_truth : PySem.W.findIn K (.ref C_Planner) "with_truth" = some (some (.ref f_Planner_with_truth))) (im_Planner_with_truth : PySem.W.isFn K (.ref f_Planner_with_truth) = true) (d_Planner_with_truth : IsDef K "with_truth" "Planner.with_truth" s_Planner_with_truth f_Planner_with_truth)
    (am_Planner_is_within : PySem.W.findIn K (.ref C_Planner) "is_within" = some (some (.ref f_Planner_is_within))) (im_Planner_is_within : PySem.W.isFn K (.ref f_Planner_is_within) = true) (d_Planner_is_within : IsDef K "is_within" "Planner.is_within" s_Planner_is_within f_Planner_is_within)
    (am_Planner___eq : PySem.W.findIn K (.ref C_Planner) "__eq__" = some (some (.ref f_Planner___eq))) (im_Planner___eq : PySem.W.isFn K (.ref f_Planner___eq) = true) (d_Planner___eq : IsDef K "__eq__" "Planner.__eq__" s_Planner___eq f_Planner___eq)
    (C_MODES : ConT K mg "MODES" a_MODES (modes.map V.str))
    (C_TRUTHS : ConT K mg "TRUTHS" a_TRUTHS (truthsL.map V.str))
    (d_Planner___init : IsDefK K "__init__" "Planner.__init__" s_Planner___init f_Planner___init kwsL)
    (p_mode : PropOf K C_Planner "mode" pp_mode pf_mode)
    (dp_mode : IsDef K "mode" "Planner.mode" s_Planner_mode pf_mode)
    (p_unknown : PropOf K C_Planner "unknown" pp_unknown pf_unknown)
    (dp_unknown : IsDef K "unknown" "Planner.unknown" s_Planner_unknown pf_unknown)
    (p_folds : PropOf K C_Planner "folds" pp_folds pf_folds)
    (dp_folds : IsDef K "folds" "Planner.folds" s_Planner_folds pf_folds)
    (p_beneath : PropOf K C_Planner "beneath" pp_beneath pf_beneath)
    (dp_beneath : IsDef K "beneath" "Planner.beneath" s_Planner_beneath pf_beneath)
    (p_early : PropOf K C_Planner "early" pp_early pf_early)
    (dp_early : IsDef K "early" "Planner.early" s_Planner_early pf_early)
    (q_aC : PySem.W.nsIn K mainGlobals "Wrong" = some (some (.ref C_Wrong)))
    (q_cC : ∃ nm q N bs bm sn sub ab col dd k0 k1 k2 k3 k5, K.lookup C_Wrong = some (excClassObj nm q C_Wrong N bs bm true sn sub ab col dd k0 k1 k2 k3 k5 "ValueError.__new__") ∧ HandSPX.refsVE bm = true)
    (q_sa : PySem.W.findIn K (.ref C_Wrong) "__setattr__" = some (some (.builtin "object.__setattr__")))
    (q_ga : PySem.W.findIn K (.ref C_Wrong) "__getattribute__" = some (some (.builtin "BaseException.__getattribute__")))
    (q_gg : PySem.W.findIn K (.ref C_Wrong) "__getattr__" = some none)
    (q_no : PySem.W.findIn K (.ref C_Wrong) "place" = some none)
    (q_iC : PySem.W.findIn K (.ref C_Wrong) "__init__" = some (some (.ref fI_Wrong)))
    (q_tI : PySem.W.typeIn K (.ref fI_Wrong) = some (.type "function"))
    (q_kC : PySem.W.keepIn K (.ref C_Wrong) = true)
    (q_eC : PySem.W.subIn K (.ref C_Wrong) (.type "BaseException") = some true)
    (q_tC : PySem.W.typeIn K (.ref C_Wrong) = some (.type "type"))
    (q_hC : PySem.W.hasDictIn K C_Wrong = true)
    (q_oC : PySem.W.isClsIn K C_Wrong = true)
    (q_sC : PySem.W.subIn K (.ref C_Wrong) (.ref C_Wrong) = some true)
    (q_d : IsDef K "__init__" "Wrong.__init__" s_Wrong___init fI_Wrong)
    (z_ca : PySem.W.findIn K (.ref C_Planner) "__class__" = some (some (.builtin "object.__class__")))
    (z_cn : PySem.W.specialIn K (.builtin "object.__class__") "__get__" = some (some (.builtin "getset_descriptor.__get__")))
    (z_ct : PySem.W.takesIn K (.builtin "object.__class__") = some true)
    (z_cm : PySem.W.mroIn K C_Planner (.type "object") = some true)
    (z_ne : PySem.W.findIn K (.ref C_Planner) "__ne__" = some (some (.builtin "object.__ne__")))
    (z_nfT : PySem.W.notFirst K C_Planner (.type "tuple") = true)
    (z_nfN : PySem.W.notFirst K C_Planner (.type "NoneType") = true)
    (z_koT : PySem.W.kitOne K (.type "tuple") (.ref C_Planner) = some false)
    (z_koS : PySem.W.kitOne K (.ref C_Planner) (.type "str") = some false)
    (z_koB : PySem.W.kitOne K (.ref C_Planner) (.type "bool") = some false)
    (z_koN : PySem.W.kitOne K (.type "NoneType") (.ref C_Planner) = some false)
    (aC_AskError : PySem.W.nsIn K mainGlobals "AskError" = some (some (.ref C_AskError)))
    (aC_Errs : PySem.W.nsIn K mainGlobals "Errs" = some (some (.ref C_Errs)))
    (w_eA : PySem.W.subIn K (.ref C_AskError) (.type "BaseException") = some true)
    (w_oA : PySem.W.isClsIn K C_AskError = true)
    (w_tA : PySem.W.typeIn K (.ref C_AskError) = some (.type "type"))
    (w_sA : PySem.W.subIn K (.ref C_Wrong) (.ref C_AskError) = some true)
    (w_ko : PySem.W.kitOne K (.ref C_Wrong) (.ref C_Errs) = some false)
    (x_hg : PySem.W.findIn K (.ref C_Wrong) "__getattribute__" = some (some (.builtin "BaseException.__getattribute__")))
    (x_hk : PySem.W.findIn K (.ref C_Wrong) "__getattr__" = some none)
    (x_hs : PySem.W.subIn K (.ref C_Wrong) (.type "BaseException") = some true)
    (x_hd : PySem.W.hasDictIn K C_Wrong = true)
    (x_ha : PySem.W.findIn K (.ref C_Wrong) "__class__" = some (some (.builtin "object.__class__")))
    (x_hm : PySem.W.mroIn K C_Wrong (.type "object") = some true) :
    ∃ fd : FuncData, (∀ (s : Shared) (u : Value), BindsTo s fd ⟨[u], []⟩ [("_law_script", u)]) ∧ ∀ base : Heap, K.In base → base.Ns mainGlobals mg → FnQ P w K mg base CX0 10 fa fd ["_law_script"] (spLaw K) := by
  have n {x : Str} (z : PySem.W.nsIn K mainGlobals x = some none) : mg x = none := PySem.W.mg_none_of X G z
  have bi : Bi mg := ⟨n b_len, n b_abs, n b_max, n b_min, n b_repr, n b_int, n b_tuple, n b_list, n b_dict, n b_isinstance, n b_sorted, n b_sum, n b_all, n b_any, n b_range, n b_enumerate, n b_zip, n b_bool, n b_str, n b_set⟩
  obtain ⟨fd_is_mode, D_is_mode⟩ := def_mk (ps := ["thing"]) X G a_is_mode d_is_mode fun _ _ _ _ _ _ us hl => match us, hl with | [_], _ => rfl
  obtain ⟨fd_planner, D_planner⟩ := def_mk (ps := ["mode", "truths"]) X G a_planner d_planner fun _ _ _ _ _ _ us hl => match us, hl with | [_, _], _ => rfl
  obtain ⟨fd_all_planners, D_all_planners⟩ := def_mk (ps := []) X G a_all_planners d_all_planners fun _ _ _ _ _ _ us hl => match us, hl with | [], _ => rfl
  obtain ⟨fd_l_bag, D_l_bag⟩ := def_mk (ps := ["_law_script"]) X G a_l_bag d_l_bag fun _ _ _ _ _ _ us hl => match us, hl with | [_], _ => rfl
  obtain ⟨fd_l_take, D_l_take⟩ := def_mk (ps := ["_law_bag_here", "_law_many"]) X G a_l_take d_l_take fun _ _ _ _ _ _ us hl => match us, hl with | [_, _], _ => rfl
  obtain ⟨fd_l_alike, D_l_alike⟩ := def_mk (ps := ["_law_found", "_law_due_here"]) X G a_l_alike d_l_alike fun _ _ _ _ _ _ us hl => match us, hl with | [_, _], _ => rfl
  obtain ⟨fd_l_one, D_l_one⟩ := def_mk (ps := ["_law_bag_here", "_law_things"]) X G a_l_one d_l_one fun _ _ _ _ _ _ us hl => match us, hl with | [_, _], _ => rfl
  obtain ⟨fd_l_deep, D_l_deep⟩ := def_mk (ps := ["_law_many"]) X G a_l_deep d_l_deep fun _ _ _ _ _ _ us hl => match us, hl with | [_], _ => rfl
  obtain ⟨fd_l_faces, D_l_faces⟩ := def_mk (ps := ["_law_planner"]) X G a_l_faces d_l_faces fun _ _ _ _ _ _ us hl => match us, hl with | [_], _ => rfl
  obtain ⟨fd_l_made, D_l_made⟩ := def_mk (ps := ["_law_face"]) X G a_l_made d_l_made fun _ _ _ _ _ _ us hl => match us, hl with | [_], _ => rfl
  obtain ⟨fd_l_every_face, D_l_every_face⟩ := def_mk (ps := []) X G a_l_every_face d_l_every_face fun _ _ _ _ _ _ us hl => match us, hl with | [], _ => rfl
  obtain ⟨fd_l_is_in_face, D_l_is_in_face⟩ := def_mk (ps := ["_law_one_here", "_law_other"]) X G a_l_is_in_face d_l_is_in_face fun _ _ _ _ _ _ us hl => match us, hl with | [_, _], _ => rfl
  obtain ⟨fd_l_tried, D_l_tried⟩ := def_mk (ps := ["_law_way", "_law_planner", "_law_some"]) X G a_l_tried d_l_tried fun _ _ _ _ _ _ us hl => match us, hl with | [_, _, _], _ => rfl
  obtain ⟨fd_l_due, D_l_due⟩ := def_mk (ps := ["_law_way", "_law_face", "_law_some"]) X G a_l_due d_l_due fun _ _ _ _ _ _ us hl => match us, hl with | [_, _, _], _ => rfl
  obtain ⟨fd_law, D_law⟩ := def_mk (ps := ["_law_script"]) X G a_law d_law fun _ _ _ _ _ _ us hl => match us, hl with | [_], _ => rfl
  obtain ⟨fd_Planner_with_mode, D_Planner_with_mode⟩ := mdef_mk (ps := ["self", "mode"]) am_Planner_with_mode im_Planner_with_mode d_Planner_with_mode fun _ _ _ _ _ _ us hl => match us, hl with | [_, _], _ => rfl
  obtain ⟨fd_Planner_with_truth, D_Planner_with_truth⟩ := mdef_mk (ps := ["self", "word", "truth"]) am_Planner_with_truth im_Planner_with_truth d_Planner_with_truth fun _ _ _ _ _ _ us hl => match us, hl with | [_, _, _], _ => rfl
  obtain ⟨fd_Planner_is_within, D_Planner_is_within⟩ := mdef_mk (ps := ["self", "other"]) am_Planner_is_within im_Planner_is_within d_Planner_is_within fun _ _ _ _ _ _ us hl => match us, hl with | [_, _], _ => rfl
  obtain ⟨fd_Planner___eq, D_Planner___eq⟩ := mdef_mk (ps := ["self", "other"]) am_Planner___eq im_Planner___eq d_Planner___eq fun _ _ _ _ _ _ us hl => match us, hl with | [_, _], _ => rfl
  have T_Planner : PlannerT K mg C_Planner f_Planner___init := ⟨T0_Planner, M_Planner, PySem.W.mg_of X G aC_Planner, N_Planner__mode, N_Planner__truths⟩
  obtain ⟨fdI_Wrong, e_Wrong⟩ := err_mk (ps := ["self", "place"]) X G q_aC q_cC q_sa q_ga q_gg q_no q_iC q_tI q_kC q_eC q_tC q_hC q_oC q_sC q_d fun _ _ _ _ _ _ us hl => match us, hl with | [_, _], _ => rfl
  obtain ⟨fdI_Pl, Fpl, dsP, hbP, hdP⟩ := init_mk d_Planner___init
  obtain ⟨fdp_mode, D_Planner_mode⟩ := pr_mk p_mode dp_mode fun _ _ _ _ _ _ us hl => match us, hl with | [_], _ => rfl
  obtain ⟨fdp_unknown, D_Planner_unknown⟩ := pr_mk p_unknown dp_unknown fun _ _ _ _ _ _ us hl => match us, hl with | [_], _ => rfl
  obtain ⟨fdp_folds, D_Planner_folds⟩ := pr_mk p_folds dp_folds fun _ _ _ _ _ _ us hl => match us, hl with | [_], _ => rfl
  obtain ⟨fdp_beneath, D_Planner_beneath⟩ := pr_mk p_beneath dp_beneath fun _ _ _ _ _ _ us hl => match us, hl with | [_], _ => rfl
  obtain ⟨fdp_early, D_Planner_early⟩ := pr_mk p_early dp_early fun _ _ _ _ _ _ us hl => match us, hl with | [_], _ => rfl
  have Z : EqC K C_Planner f_Planner___eq := ⟨z_ca, z_cn, z_ct, z_cm, am_Planner___eq, im_Planner___eq, z_ne, z_nfT, z_nfN, z_koT, z_koS, z_koB, z_koN⟩
  have eA : Errs2 K mg "AskError" C_AskError := ⟨PySem.W.mg_of X G aC_AskError⟩
  have eE : Errs2 K mg "Errs" C_Errs := ⟨PySem.W.mg_of X G aC_Errs⟩
  have te : PySem.W.exmOne K (.ref C_Wrong) (.ref C_AskError) = some true := exm_two w_eA w_oA w_tA w_sA
  have xc : ExcC K C_Wrong := ⟨x_hg, x_hk, x_hs, x_hd, x_ha, z_cn, z_ct, x_hm⟩
  have e := hfa.symm.trans D_law.mg
  cases e
  refine ⟨fd_law, fun s u => ?_, fun base _ _ => ?_⟩
  · obtain ⟨_, _, _, _, _, _, _, _, _, rfl, _⟩ := D_law.fn.ex
    exact .of_eq rfl
  have Gb := bag_sealed (ok_bagI (P := P) (w := w) (base := base) D_l_bag bi)
  have Gt := take_sealed (ok_takeI (P := P) (w := w) (base := base) D_l_take bi)
  have Go := ok_one (P := P) (w := w) (base := base) D_l_one bi D_l_take Gt
  have GW := ok_initW (P := P) (w := w) (mg := mg) (base := base) e_Wrong
  have Gim := ok_is_mode (P := P) (w := w) (base := base) D_is_mode bi C_MODES
  have Gpl := ok_planner (P := P) (w := w) (base := base) T_Planner Fpl bi e_Wrong GW D_is_mode Gim
  have Kpl := kb_planner Fpl
  have G1 := ok_mode (P := P) (w := w) (base := base) T_Planner D_Planner_mode
  have G2 := ok_unknown (P := P) (w := w) (base := base) T_Planner D_Planner_unknown
  have G3 := ok_folds (P := P) (w := w) (base := base) T_Planner D_Planner_folds
  have G4 := ok_beneath (P := P) (w := w) (base := base) T_Planner D_Planner_beneath
  have G5 := ok_early (P := P) (w := w) (base := base) T_Planner D_Planner_early
  have Gmk := ok_planner_ (P := P) (w := w) (base := base) D_planner bi T_Planner Kpl Gpl
  have Gwm := ok_with_mode (P := P) (w := w) (base := base) D_Planner_with_mode bi T_Planner e_Wrong GW D_is_mode Gim D_planner Gmk
  have Gwt := ok_with_truth (P := P) (w := w) (base := base) D_Planner_with_truth bi T_Planner e_Wrong GW C_TRUTHS D_planner Gmk
  have Gwi := ok_is_within (P := P) (w := w) (base := base) D_Planner_is_within bi T_Planner D_Planner_mode G1 D_Planner_unknown G2
  have Gap := ok_all_planners (P := P) (w := w) (base := base) D_all_planners bi C_TRUTHS C_MODES D_planner Gmk
  have Geq := ok_eq (P := P) (w := w) (base := base) D_Planner___eq bi T_Planner Z
  have GeqR : FnR P w K mg base CX0 1 f_Planner___eq (spEqP K C_Planner) := by have h := Geq.raw D_Planner___eq.bd .nil; simp only [List.append_nil] at h; exact h
  have Gfa := ok_l_faces (P := P) (w := w) (base := base) D_l_faces bi T_Planner D_Planner_mode G1 D_Planner_unknown G2 D_Planner_folds G3 D_Planner_beneath G4 D_Planner_early G5
  have Gma := ok_l_made (P := P) (w := w) (base := base) D_l_made bi T_Planner Kpl Gpl
  have Gde := ok_l_deep (P := P) (w := w) (base := base) D_l_deep bi
  have Gev := ok_l_every_face (P := P) (w := w) (base := base) D_l_every_face bi
  have Gii := ok_l_is_in_face (P := P) (w := w) (base := base) D_l_is_in_face bi
  have Gtr := ok_l_tried (P := P) (w := w) (base := base) D_l_tried bi T_Planner e_Wrong eA te eE w_ko xc D_l_faces Gfa D_l_made Gma D_Planner_with_mode Gwm D_Planner_with_truth Gwt
  have Gdu := ok_l_due (P := P) (w := w) (base := base) D_l_due bi
  have Gal := ok_alike (P := P) (w := w) (base := base) D_l_alike bi
  exact ok_law D_law bi T_Planner Z Gpl hbP hdP GeqR D_l_bag Gb D_l_take Gt D_l_one Go D_l_alike Gal D_l_deep Gde D_l_faces Gfa D_l_made Gma D_l_every_face Gev D_l_is_in_face Gii D_l_tried Gtr D_l_due Gdu D_all_planners Gap D_Planner_is_within Gwi
end K41
open PySem PySem.W PyProof.Rows
set_option maxRecDepth 100000 in
set_option maxHeartbeats 0 in
theorem PySem.Challenge.cw_refusedahead_k41_planners_told_holds : PySem.Challenge.rw_refusedahead_k41_planners_told.Holds := by
  w_on; o_law; k_head; (case hw => w_witness2)
  k_fill
  refine Gx.walkQ (l := PySem.Challenge.rw_refusedahead_k41_planners_told) (n := 63) (k := 10) (x := "_law_script") (CX := fun _ => L2.CX0) (sp := fun w => K41.spLaw (_ : PySem.W.Frag)) rfl (by decide) rfl ⟨rfl, by decide, by decide⟩
    (fun w h Y => PySem.W.kIn_of Y) ?F (fun _ _ a ns hl _ hS => ⟨a, ns, rfl, hS, hl, fun _ => rfl⟩) (fun _ _ _ _ _ z => z)
  case F =>
    intro w mg fa h KX G hmg
    refine' K41.all_ok KX G hmg ?a_is_mode ?d_is_mode ?a_planner ?d_planner ?a_all_planners ?d_all_planners ?a_l_bag ?d_l_bag ?a_l_take ?d_l_take ?a_l_alike ?d_l_alike ?a_l_one ?d_l_one ?a_l_deep ?d_l_deep ?a_l_faces ?d_l_faces ?a_l_made ?d_l_made ?a_l_every_face ?d_l_every_face ?a_l_is_in_face ?d_l_is_in_face ?a_l_tried ?d_l_tried ?a_l_due ?d_l_due ?a_law ?d_law ?b_len ?b_abs ?b_max ?b_min ?b_repr ?b_int ?b_tuple ?b_list ?b_dict ?b_isinstance ?b_sorted ?b_sum ?b_all ?b_any ?b_range ?b_enumerate ?b_zip ?b_bool ?b_str ?b_set ?aC_Planner ?T0_Planner ?M_Planner ?N_Planner__mode ?N_Planner__truths ?am_Planner_with_mode ?im_Planner_with_mode ?d_Planner_with_mode ?am_Planner_with_truth ?im_Planner_with_truth ?d_Planner_with_truth ?am_Planner_is_within ?im_Planner_is_within ?d_Planner_is_within ?am_Planner___eq ?im_Planner___eq ?d_Planner___eq ?C_MODES ?C_TRUTHS ?d_Planner___init ?p_mode ?dp_mode ?p_unknown ?dp_unknown ?p_folds ?dp_folds ?p_beneath ?dp_beneath ?p_early ?dp_early ?q_aC ?q_cC ?q_sa ?q_ga ?q_gg ?q_no ?q_iC ?q_tI ?q_kC ?q_eC ?q_tC ?q_hC ?q_oC ?q_sC ?q_d ?z_ca ?z_cn ?z_ct ?z_cm ?z_ne ?z_nfT ?z_nfN ?z_koT ?z_koS ?z_koB ?z_koN ?aC_AskError ?aC_Errs ?w_eA ?w_oA ?w_tA ?w_sA ?w_ko ?x_hg ?x_hk ?x_hs ?x_hd ?x_ha ?x_hm
    (case a_is_mode => k_is)
    (case d_is_mode => refine' K41.isdef_mk ?l ?c ?k; (case l => k_is); (case c => k_is); (case k => k_is))
    (case a_planner => k_is)
    (case d_planner => refine' K41.isdef_mk ?l ?c ?k; (case l => k_is); (case c => k_is); (case k => k_is))
    (case a_all_planners => k_is)
    (case d_all_planners => refine' K41.isdef_mk ?l ?c ?k; (case l => k_is); (case c => k_is); (case k => k_is))
    (case a_l_bag => k_is)
    (case d_l_bag => refine' K41.isdef_mk ?l ?c ?k; (case l => k_is); (case c => k_is); (case k => k_is))
    (case a_l_take => k_is)
    (case d_l_take => refine' K41.isdef_mk ?l ?c ?k; (case l => k_is); (case c => k_is); (case k => k_is))
    (case a_l_alike => k_is)
    (case d_l_alike => refine' K41.isdef_mk ?l ?c ?k; (case l => k_is); (case c => k_is); (case k => k_is))
    (case a_l_one => k_is)
    (case d_l_one => refine' K41.isdef_mk ?l ?c ?k; (case l => k_is); (case c => k_is); (case k => k_is))
    (case a_l_deep => k_is)
    (case d_l_deep => refine' K41.isdef_mk ?l ?c ?k; (case l => k_is); (case c => k_is); (case k => k_is))
    (case a_l_faces => k_is)
    (case d_l_faces => refine' K41.isdef_mk ?l ?c ?k; (case l => k_is); (case c => k_is); (case k => k_is))
    (case a_l_made => k_is)
    (case d_l_made => refine' K41.isdef_mk ?l ?c ?k; (case l => k_is); (case c => k_is); (case k => k_is))
    (case a_l_every_face => k_is)
    (case d_l_every_face => refine' K41.isdef_mk ?l ?c ?k; (case l => k_is); (case c => k_is); (case k => k_is))
    (case a_l_is_in_face => k_is)
    (case d_l_is_in_face => refine' K41.isdef_mk ?l ?c ?k; (case l => k_is); (case c => k_is); (case k => k_is))
    (case a_l_tried => k_is)
    (case d_l_tried => refine' K41.isdef_mk ?l ?c ?k; (case l => k_is); (case c => k_is); (case k => k_is))
    (case a_l_due => k_is)
    (case d_l_due => refine' K41.isdef_mk ?l ?c ?k; (case l => k_is); (case c => k_is); (case k => k_is))
    (case a_law => k_is)
    (case d_law => refine' K41.isdef_mk ?l ?c ?k; (case l => k_is); (case c => k_is); (case k => k_is))
    (case b_len => k_is)
    (case b_abs => k_is)
    (case b_max => k_is)
    (case b_min => k_is)
    (case b_repr => k_is)
    (case b_int => k_is)
    (case b_tuple => k_is)
    (case b_list => k_is)
    (case b_dict => k_is)
    (case b_isinstance => k_is)
    (case b_sorted => k_is)
    (case b_sum => k_is)
    (case b_all => k_is)
    (case b_any => k_is)
    (case b_range => k_is)
    (case b_enumerate => k_is)
    (case b_zip => k_is)
    (case b_bool => k_is)
    (case b_str => k_is)
    (case b_set => k_is)
    (case aC_Planner => k_is)
    (case T0_Planner => refine' ⟨?zpg, ?zhd, ?zpo, ?zsa⟩; (case zpg => k_is); (case zhd => k_is); (case zpo => k_is); (case zsa => k_is))
    (case M_Planner => refine' ⟨?zmk, ?zin, ?zfn, ?zkp⟩; (case zmk => k_is); (case zin => k_is); (case zfn => k_is); (case zkp => k_is))
    (case N_Planner__mode => (show PySem.W.findIn _ _ _ = _); k_is)
    (case N_Planner__truths => (show PySem.W.findIn _ _ _ = _); k_is)
    (case am_Planner_with_mode => k_is)
    (case im_Planner_with_mode => k_is)
    (case d_Planner_with_mode => refine' K41.isdef_mk ?l ?c ?k; (case l => k_is); (case c => k_is); (case k => k_is))
    (case am_Planner_with_truth => k_is)
    (case im_Planner_with_truth => k_is)
    (case d_Planner_with_truth => refine' K41.isdef_mk ?l ?c ?k; (case l => k_is); (case c => k_is); (case k => k_is))
    (case am_Planner_is_within => k_is)
    (case im_Planner_is_within => k_is)
    (case d_Planner_is_within => refine' K41.isdef_mk ?l ?c ?k; (case l => k_is); (case c => k_is); (case k => k_is))
    (case am_Planner___eq => k_is)
    (case im_Planner___eq => k_is)
    (case d_Planner___eq => refine' K41.isdef_mk ?l ?c ?k; (case l => k_is); (case c => k_is); (case k => k_is))
    (case C_MODES => refine' K41.conT_mk KX G ?aC ?l ?v ?sz; (case aC => k_is); (case l => k_is); (case v => exact .cons ⟨_, rfl⟩ (.cons ⟨_, rfl⟩ (.cons ⟨_, rfl⟩ (.nil)))); (case sz => decide))
    (case C_TRUTHS => refine' K41.conT_mk KX G ?aC ?l ?v ?sz; (case aC => k_is); (case l => k_is); (case v => exact .cons ⟨_, rfl⟩ (.cons ⟨_, rfl⟩ (.cons ⟨_, rfl⟩ (.cons ⟨_, rfl⟩ (.nil))))); (case sz => decide))
    (case d_Planner___init => refine' K41.isdefk_mk ?l ?c ?k ?kv; (case l => k_is); (case c => k_is); (case k => k_is); (case kv => (intro q hq; simp only [K41.kwsL, List.mem_cons, List.not_mem_nil, or_false] at hq; rcases hq with rfl | rfl | rfl | rfl <;> exact ⟨_, rfl, rfl⟩)))
    (case p_mode => refine' K41.prop_mk ?zpa ?zpl ?zpe ?zpb ?zpc; (case zpa => k_is); (case zpl => k_is); (case zpe => rfl); (case zpb => k_is); (case zpc => k_is))
    (case dp_mode => refine' K41.isdef_mk ?l ?c ?k; (case l => k_is); (case c => k_is); (case k => k_is))
    (case p_unknown => refine' K41.prop_mk ?zpa ?zpl ?zpe ?zpb ?zpc; (case zpa => k_is); (case zpl => k_is); (case zpe => rfl); (case zpb => k_is); (case zpc => k_is))
    (case dp_unknown => refine' K41.isdef_mk ?l ?c ?k; (case l => k_is); (case c => k_is); (case k => k_is))
    (case p_folds => refine' K41.prop_mk ?zpa ?zpl ?zpe ?zpb ?zpc; (case zpa => k_is); (case zpl => k_is); (case zpe => rfl); (case zpb => k_is); (case zpc => k_is))
    (case dp_folds => refine' K41.isdef_mk ?l ?c ?k; (case l => k_is); (case c => k_is); (case k => k_is))
    (case p_beneath => refine' K41.prop_mk ?zpa ?zpl ?zpe ?zpb ?zpc; (case zpa => k_is); (case zpl => k_is); (case zpe => rfl); (case zpb => k_is); (case zpc => k_is))
    (case dp_beneath => refine' K41.isdef_mk ?l ?c ?k; (case l => k_is); (case c => k_is); (case k => k_is))
    (case p_early => refine' K41.prop_mk ?zpa ?zpl ?zpe ?zpb ?zpc; (case zpa => k_is); (case zpl => k_is); (case zpe => rfl); (case zpb => k_is); (case zpc => k_is))
    (case dp_early => refine' K41.isdef_mk ?l ?c ?k; (case l => k_is); (case c => k_is); (case k => k_is))
    (case q_aC => k_is)
    (case q_cC => refine' K41.cls_mk ?l ?v; (case l => k_is); (case v => decide +kernel))
    (case q_sa => k_is)
    (case q_ga => k_is)
    (case q_gg => k_is)
    (case q_no => k_is)
    (case q_iC => k_is)
    (case q_tI => k_is)
    (case q_kC => k_is)
    (case q_eC => k_is)
    (case q_tC => k_is)
    (case q_hC => k_is)
    (case q_oC => k_is)
    (case q_sC => first | rfl | k_is)
    (case q_d => refine' K41.isdef_mk ?l ?c ?k; (case l => k_is); (case c => k_is); (case k => k_is))
    (case z_ca => first | k_is | rfl | decide +kernel)
    (case z_cn => first | k_is | rfl | decide +kernel)
    (case z_ct => first | k_is | rfl | decide +kernel)
    (case z_cm => first | k_is | rfl | decide +kernel)
    (case z_ne => first | k_is | rfl | decide +kernel)
    (case z_nfT => first | k_is | rfl | decide +kernel)
    (case z_nfN => first | k_is | rfl | decide +kernel)
    (case z_koT => first | k_is | rfl | decide +kernel)
    (case z_koS => first | k_is | rfl | decide +kernel)
    (case z_koB => first | k_is | rfl | decide +kernel)
    (case z_koN => first | k_is | rfl | decide +kernel)
    (case aC_AskError => first | k_is | rfl | decide +kernel)
    (case aC_Errs => first | k_is | rfl | decide +kernel)
    (case w_eA => first | k_is | rfl | decide +kernel)
    (case w_oA => first | k_is | rfl | decide +kernel)
    (case w_tA => first | k_is | rfl | decide +kernel)
    (case w_sA => first | k_is | rfl | decide +kernel)
    (case w_ko => first | k_is | rfl | decide +kernel)
    (case x_hg => first | k_is | rfl | decide +kernel)
    (case x_hk => first | k_is | rfl | decide +kernel)
    (case x_hs => first | k_is | rfl | decide +kernel)
    (case x_hd => first | k_is | rfl | decide +kernel)
    (case x_ha => first | k_is | rfl | decide +kernel)
    (case x_hm => first | k_is | rfl | decide +kernel)

