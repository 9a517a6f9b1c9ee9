import PyProof.Rows.All
import Wide.All
import OpenK.AllK
import Wide.FinOn
import PyProof.ReprRoads
import HandS.ForMost
import HandS.ForExc
import HandS.Evl
import HandS.Wide
import HandS.Conv
import HandS.More
import HandS.WideBits
import HandS.ExcInit
import HandS.ExcField
import HandS.IsInst
import KE.KDictPairs
import KE.GoesMore
import HandS.TupAny
import PySem.Challenge.RW_refusedahead_k17_numbers_led_on
set_option Elab.async false
set_option linter.all false
set_option maxRecDepth 100000
set_option maxHeartbeats 2000000
/-! Calls made while no repr is under way (needed for repr); repr and == of data; wide division. -/
namespace Gx
open PySem PySem.Spec PyProof.Rows L2
abbrev Quiet (A : Around) : Prop := A.guards = some []
structure FnQ (P : Program) (w : World) (K : PySem.W.Frag) (mg : Str → Option Value)
    (base : Heap) (CX : CXT) (k : Nat) (f : Addr) (fd : FuncData) (ps : List Str) (sp : Sp) : Prop where
  argc : ∀ vs H Q E, sp vs H Q E → vs.length = ps.length
  goes : ∀ (A : Around) (outer : List Env) (s : Shared) (H : Hp) (args : Args) (us : List Value)
    (vs : List V) (Q : VK) (E : XK), Room k A → Quiet A → Env0 P w K mg base A outer s H →
    BindsTo s fd args (ps.zip us) → Vals vs us → sp vs H Q E →
    codeAny (model P w) A (.call (.ref f) args) (CR CX outer P w H s Q E) s
section
variable {P : Program} {w : World} {K : PySem.W.Frag} {mg : Str → Option Value} {base : Heap} {CX : CXT}
/-- a def whose promise holds at any call holds it at a quiet one -/
theorem FnQ.of {k : Nat} {f : Addr} {fd : FuncData} {ps : List Str} {sp : Sp}
    (G : FnOk P w K mg base CX k f fd ps sp) : FnQ P w K mg base CX k f fd ps sp :=
  ⟨G.len, fun A o s H ar us vs Q E r _ => G.run A o s H ar us vs Q E r⟩
theorem FnQ.mono {j k : Nat} {f : Addr} {fd : FuncData} {ps : List Str} {sp : Sp}
    (G : FnQ P w K mg base CX j f fd ps sp) (h : j ≤ k) : FnQ P w K mg base CX k f fd ps sp :=
  ⟨G.argc, fun A o s H ar us vs Q E r => G.goes A o s H ar us vs Q E (r.mono h)⟩
/-- a def's body, walked at quiet calls alone -/
theorem fnq_of {x qual : Str} {st : Stmt} {f : Addr} {fd : FuncData} {N ps : List Str} {k : Nat} {sp : Sp}
    (F : Fun K x qual st f fd) (S : FnScope N ps (defScope st))
    (len : ∀ vs H Q E, sp vs H Q E → vs.length = ps.length)
    (walk : ∀ (cdv : Value) (A : Around) (outer : List Env) (s : Shared) (H : Hp) (vs : List V) (Q : VK) (E : XK),
      Room k (A.deeper (envOfC qual (defScope st) s.heap.objs.size f cdv)) → Quiet A → sp vs H Q E →
      ∃ t, PSs (cxOf CX P w K mg base N qual (defScope st) f cdv A outer s H E) (defBody st) t ∧
        t { nx := fun _ H' => Q .non H', rt := Q } (start N vs) H) :
    FnQ P w K mg base CX (k + 1) f fd ps sp := by
  obtain ⟨oc, od, kV, doc, pm, an, cdv, ct, osl, rfl, lk, hcd⟩ := F.ex
  refine ⟨len, fun A o s H ar us vs Q E rm qu e0 bd rv hs => ?_⟩
  have argl := len _ _ _ _ hs
  have inK : K.In s.heap := e0.mod.kin.keeps fun b ob z => (e0.bs b ob z).1
  have nolim : s.heap.NoLimit := e0.mod.nolimit.keeps fun b ob z => (e0.bs b ob z).1
  refine codeAny_call_function rm.depth (inK _ _ lk) rfl S.co S.gen rfl
    (PySem.W.codeRec_of inK hcd) (bd _ _ _ _ ?_)
  refine wpAny_newFunctionEnv_cells S.kind (fun y hy => ?_) fun en hen s1 ic => ?_
  · obtain ⟨nm, vl⟩ := y
    rcases S.par nm (List.of_mem_zip hy).1 with loc | cel
    · exact .inl loc
    · exact .inr ⟨cel, PySem.W.cellsFrom_some _ _ _ (.inl cel)⟩
  · subst hen
    refine ⟨nolim.keeps ic.toInCall.keep, codeAny_func ?_⟩
    obtain ⟨t, pt, ht⟩ := walk cdv A o s H vs Q E (rm.deeper _) qu hs
    have I := inv_start (CX := CX) (E := E) S rm.hd e0 argl rv ic
    refine wpAny_mono (pt.run [] s1 (start N vs) H _ I ht) (fun fl s' hq => ?_) fun _ _ hq => hq
    cases fl with
    | brk => obtain ⟨_, _, _, no⟩ := hq; exact no.elim
    | cont => obtain ⟨_, _, _, no⟩ := hq; exact no.elim
    | next => obtain ⟨σ, H', J, q⟩ := hq; exact ⟨.non, H', J.os, J.bare, J.base, J.hok, rfl, q⟩
    | ret u => obtain ⟨v, σ, H', J, r, q⟩ := hq; exact ⟨v, H', J.os, J.bare, J.base, J.hok, r, q⟩
end
section
variable {X : Cx} {CX : CXT} {k : Nat} {f : Addr} {fd : FuncData} {ps : List Str} {sp : Sp} {E : XK}
  {x : Str} {p pos : Pos} {e : Expr} {es : List Expr} {t : TA}
/-- f(..) at a quiet place -/
theorem pe_callQ (G : FnQ X.prog X.w X.K X.mg X.base CX k f fd ps sp) (qu : Quiet X.A) (rm : Room k X.A)
    (hg : Gl X x) (hm : X.mg x = some (.ref f)) (hk : PySem.W.keepIn X.K (.ref f) = true)
    (bd : Binds X.K fd ps []) (pass : Passes CX X E) (ha : PA X (e :: es) t)
    (hdb : (x == ("__debug__" : Str)) = false := by decide)
    (he : starEach (e :: es) X.env = (false, eval e X.env) :: starEach es X.env := by rfl)
    (hpl : (backTo pos (starEach es X.env)).any (·.1) = false := by rfl) :
    PE X (.Call (.Name x p) (e :: es) [] pos) (tCall sp [] E t) := by
  constructor
  intro pins s σ H Q I h
  refine wpAny_Call_Name_kw (ld_glob I hg hm ?_ hdb)
  refine PySem.W.callWith_K (h₀ := X.base) I.ok.mod.kin hk (thn (ha.run pos pins s σ H _ I h) ?_) he hpl
  rintro us s1 ⟨vs, H1, I1, rv, q⟩
  refine ⟨I1.kIn, wpAny_call (codeAny_mono (G.goes X.A X.stack s1 H1 ⟨us, []⟩ us vs Q E rm qu I1.env0 ?_ rv ?_) ?_)⟩
  · have b := bd s1 us I1.kIn (by rw [List.append_nil, ← rv.length, ← List.append_nil vs]; exact G.argc _ _ _ _ q)
    rwa [List.append_nil] at b
  · rwa [List.append_nil] at q
  · intro r s' hq
    match r, hq with
    | .error z, hq => exact pass pins σ H1 s1 z s' I1 hq
    | .ok (.ret u), hq => exact I1.after hq
end
end Gx

set_option Elab.async false
set_option linter.all false
set_option maxRecDepth 100000
set_option maxHeartbeats 2000000
namespace Gx
open PySem PySem.Spec PyProof.Rows L2
/-- the law's call from outside: nothing is tracked but the script, where that is no object of the module -/
theorem law_goes {P : Program} {w : World} {K : PySem.W.Frag} {mg mb : Str → Option Value} {CX : CXT} {k : Nat}
    {fa a : Addr} {fd : FuncData} {x : Str} {sp : Sp} {z : Shared} {vs : List Value} {ns : List Int}
    (inK : K.In z.heap) (gl : z.heap.Ns mainGlobals mg) (bl : z.heap.Ns builtinsNs mb)
    (bb : ∀ x : Str, x ≠ "__name__" → mb x = bootBuiltins x) (lim : z.heap.NoLimit) (gs : z.gens = #[])
    (ha : z.heap.get? a = some { cls := .type "list", data := .seq vs.toArray }) (hi : IntsAre vs ns)
    (hl : ns.length ≤ sizeLine) (rm : Room k callerA)
    (G : ∀ base : Heap, K.In base → base.Ns mainGlobals mg → FnQ P w K mg base CX k fa fd [x] sp)
    (bd : ∀ (s : Shared) (u : Value), BindsTo s fd ⟨[u], []⟩ [(x, u)])
    (hsp : ∀ H : Hp, Only H → SqL K H a (ns.map V.int) → sp [.ref a] H (fun v _ => v = .bl true) fun _ _ _ => False)
    (no : ∀ H e s', CX [] H z (fun _ _ _ => False) e s' → False) :
    codeAny (model P w) callerA (.call (.ref fa) ⟨[.ref a], []⟩)
      (fun r s' => r = .ok (.ret (.bool true)) ∧ OldK z.heap s'.heap ∧ s'.os = z.os ∧ AllBare s'.gens) z := by
  have rv := vals_ints hi
  have go : ∀ H : Hp, Only H → SqL K H a (ns.map V.int) → HOk P w H z.heap →
      (∀ b u, H b = some u → b = a ∧ K.lookup a = none) →
      codeAny (model P w) callerA (.call (.ref fa) ⟨[.ref a], []⟩)
        (fun r s' => r = .ok (.ret (.bool true)) ∧ OldK z.heap s'.heap ∧ s'.os = z.os ∧ AllBare s'.gens) z := by
    intro H on sq ok at_
    -- a namespace is no list: it is not tracked
    have free : ∀ (b : Addr) (o : Obj), z.heap.get? b = some o → (∀ u n, o.data ≠ .seq u n) → H b = none := by
      intro b o e d
      rcases hb : H b with _ | u
      · rfl
      · obtain ⟨rfl, _⟩ := at_ b u hb
        rw [ha] at e
        cases e
        exact absurd rfl (d _ _)
    have ns_ : ∀ (b : Addr) (m : Str → Option Value), z.heap.Ns b m → (hidT z.heap H).Ns b m := by
      rintro b m ⟨o, es, ep, e, d, r⟩
      exact ⟨o, es, ep, hidT_get e (free b o e fun u n q => by rw [d] at q; cases q), d, r⟩
    have kin : K.In (hidT z.heap H) := by
      intro b o e
      refine hidT_get (inK b o e) ?_
      rcases hb : H b with _ | u
      · rfl
      · obtain ⟨rfl, q⟩ := at_ b u hb
        rw [q] at e
        cases e
    obtain ⟨mc, l1, l2⟩ := lim
    have md : Mod K mg (hidT z.heap H) := ⟨kin, ns_ _ _ gl, ⟨mb, ns_ _ _ bl, bb⟩, ⟨mc, ns_ _ _ l1, l2⟩⟩
    have e0 : Env0 P w K mg (hidT z.heap H) callerA [] z H :=
      ⟨rfl, md, fun _ _ => of_hidT, Nat.le_of_eq (hidT_size _ _), trivial, (fun b (hb : b ∈ ([] : List Addr)) => (List.not_mem_nil hb).elim), ok, .of_eq gs⟩
    refine codeAny_mono ((G _ kin (ns_ _ _ gl)).goes callerA [] z H ⟨[.ref a], []⟩ [.ref a] [.ref a] _ _
      rm rfl e0 (bd z (.ref a)) (.cons rfl .nil) (hsp H on sq)) ?_
    intro r s' h
    match r, h with
    | .error e, h => exact (no H e s' h).elim
    | .ok (.ret u), h =>
      obtain ⟨v, H', os, bare, un, ok', r', q⟩ := h
      subst q
      obtain rfl : u = Value.bool true := r'
      refine ⟨rfl, OldK.of_keep fun b o e => ?_, os, bare⟩
      rcases hb : H b with _ | u
      · exact un.keep b o e hb (fun q => by cases q) (fun q => by cases q)
      · rcases on b with q | ⟨ob, xs, q⟩
        · rw [hb] at q; cases q
        · obtain ⟨e1, _⟩ := ok b _ q
          obtain ⟨e2, _⟩ := ok' b _ (un.frzs b ob _ q)
          rw [e] at e1
          cases e1
          exact e2
  rcases hk : K.lookup a with _ | o
  · let H : Hp := fun b => if b = a then some (.frz { cls := .type "list", data := .seq vs.toArray } (.lst (ns.map V.int))) else none
    have Ha : H a = some (.frz { cls := .type "list", data := .seq vs.toArray } (.lst (ns.map V.int))) := if_pos rfl
    have Hn : ∀ b, b ≠ a → H b = none := fun b hb => if_neg hb
    refine go H (fun b => ?_) (.inl (.inr ⟨_, Ha⟩)) (fun b u e => ?_) (fun b u e => ?_)
    · by_cases hb : b = a
      · subst hb; exact .inr ⟨_, _, Ha⟩
      · exact .inl (Hn b hb)
    · by_cases hb : b = a
      · subst hb
        rw [Ha] at e
        cases e
        exact ⟨ha, by rw [List.length_map]; exact hl, vs, _, rv, ha⟩
      · rw [Hn b hb] at e; cases e
    · by_cases hb : b = a
      · exact ⟨hb, hk⟩
      · rw [Hn b hb] at e; cases e
  · have e := inK a o hk
    rw [ha] at e
    cases e
    refine go (fun _ => none) (fun _ => .inl rfl)
      (.inr ⟨_, vs.toArray, _, hk, rfl, rfl, rfl, by rw [List.size_toArray, hi.length]; exact hl, by simpa using rv⟩)
      (fun b u e => by cases e) (fun b u e => by cases e)
theorem walkQ {l : PySem.W.OpenLaw} {n k : Nat} {q : Program} {loose : List Str}
    {XP : (Str → Option Value) → Heap → Prop} {YP : World → Heap → Prop} {d : DefRec}
    {K : Params → PySem.W.Frag} {CX : World → CXT} {sp : World → Sp} {x : Str}
    (hn : l.most = some n) (hn2 : n ≤ sizeLine) (hdf : d.params.defaults = []) (rm : Room k callerA)
    (hY : ∀ (w : World) (h : Heap), YP w h → (K w.params).In h)
    (F : ∀ (w : World) (mg : Str → Option Value) (fa : Addr) (h : Heap), (K w.params).In h →
      h.Ns mainGlobals mg → mg d.name = some (.ref fa) →
      ∃ fd : FuncData, (∀ (s : Shared) (u : Value), BindsTo s fd ⟨[u], []⟩ [(x, u)]) ∧
        ∀ base : Heap, (K w.params).In base → base.Ns mainGlobals mg →
          FnQ l.prog w (K w.params) mg base (CX w) k fa fd [x] (sp w))
    (hsp : ∀ (w : World) (H : Hp) (a : Addr) (ns : List Int), ns.length ≤ n → Only H →
      SqL (K w.params) H a (ns.map V.int) → sp w [.ref a] H (fun v _ => v = .bl true) fun _ _ _ => False)
    (hCX : ∀ (w : World) (H : Hp) (s : Shared) (e : Value) (s' : Shared), CX w [] H s (fun _ _ _ => False) e s' → False) :
    PySem.W.WalkO q loose XP YP l.row.toRowW d [] (fun f vs => PySem.call f vs) := by
  refine Att.attach_call hn hdf ?_
  intro w s₀ z mg mb fa o pm cd doc a vs ns G Y ho hd hcd hmg hobj hints hlen hg
  obtain ⟨fd, hb, hF⟩ := F w mg fa _ (hY w _ Y) G.T.g hmg
  exact law_goes (hY w _ Y) G.T.g G.T.b G.T.builtins G.T.nolimit hg hobj hints (Nat.le_trans hlen hn2) rm hF hb
    (fun H hO hS => hsp w H a ns hlen hO hS) fun H e s' => hCX w H z e s'
end Gx

set_option Elab.async false
set_option linter.all false
set_option maxRecDepth 100000
set_option maxHeartbeats 2000000
namespace Gx
open PySem PySem.Spec PyProof.Rows L2
/-- what a first clause 'except x as n' that takes every exception of the body wishes of it -/
def wFst (K : PySem.W.Frag) (c : Value) (i : Nat) (ts : Addr → Value → Option Addr → TS) (D : Ends) : WX :=
  fun cls d σ H => PySem.W.exmOne K cls c = some true ∧ ∀ a, H a = none →
    ts a cls d ⟨fun σ' H' => D.nx (σ'.set i none) H', D.rt, fun σ' H' => D.bk (σ'.set i none) H',
      fun σ' H' => D.ct (σ'.set i none) H'⟩ (σ.set i (some (.ref a))) H
section
variable {X : Cx} {x n : Str} {c : Value} {i : Nat} {body suite : List Stmt} {b₀ : Stmt} {np pos pos' : Pos}
  {tb : WX → TS} {ts : Addr → Value → Option Addr → TS} {more : List ExceptHandler}
/-- try: body / except x as n: suite / further clauses, which are never looked at -/
theorem ps_try_fst (hs : X.stack = X.env :: X.outer) (hf : X.env.frame = some X.env.locals) (hN : X.N.Nodup)
    (hi : X.N[i]? = some n) (hln : X.env.kindOf n = some .local) (hc : Names X x c)
    (hb : ∀ (W : WX) (pn : List (Addr × Obj)) (xe : Value → Shared → Prop), L2.Takes (X.tr pn xe) W →
      PassesOwn (model X.prog X.w) X.A X.env xe → PSs (X.tr pn xe) body (tb W))
    (hsu : ∀ (a : Addr) (oe : Obj) (cls : Value) (d : Option Addr) (pn : List (Addr × Obj)), Zc cls d oe →
      (∃ vs, oe.data = .fields vs) → PSs (X.suite a ((a, oe) :: pn)) (b₀ :: suite) (ts a cls d)) :
    PS X (.Try body (.ExceptHandler (some (.Name x np)) (some n) (b₀ :: suite) pos' :: more) [] [] pos)
      (fun D σ H => tb (wFst X.K c i ts D) D σ H) := by
  constructor
  intro pins s σ H D I h
  have ok := I.ok
  have frs_ : X.A.frames = some (X.env :: X.outer) := by rw [ok.frames, hs]
  refine wpAny_Try_except ?_
  refine wpAny_mono ((hb (wFst X.K c i ts D) (X.pn ++ pins) _ ?tk PassesOwn.looking).run [] s σ H D (I.toTry _) h) ?_
    fun e s1 he => he
  case tk =>
    rintro u z ⟨a, B, sI, ps, σ1, H1, cls, d, rfl, J', nb, up, sky, na, os, ag, hm, hy⟩
    have J : Inv X pins σ1 H1 sI := J'.ofTry ok
    rw [show (X.tr (X.pn ++ pins) _).stack = X.env :: X.outer from hs] at sky
    show wpAny (model X.prog X.w) X.A (noteFrame (.ref a) X.env) _ _ _
    refine Sky.land Zc.steady frs_ hf sky fun h3 fl up3 => ?_
    have J3 : Inv X pins σ1 H1 { z with heap := h3 } := J.landed nb fl.1 (up.trans up3) os ag
    obtain ⟨oe, vs, he, hz, hd⟩ := fl.there
    -- an exception is no frame
    have nfr : a ∉ frs (X.env :: X.outer) := by
      intro hin
      obtain ⟨_, o', e', hnf⟩ := fl.2.2.1.mem hin
      rw [he] at e'
      cases e'
      exact hnf _ hd
    have nL : a ≠ X.env.locals := fun q => nfr (List.mem_filterMap.mpr ⟨X.env, List.mem_cons_self, by rw [hf, q]⟩)
    have nF : a ∉ X.fs := fun hin => by
      obtain ⟨e, q1, q2⟩ := List.mem_filterMap.mp hin
      exact nfr (List.mem_filterMap.mpr ⟨e, List.mem_cons_of_mem _ q1, q2⟩)
    have S3 := J3.suite he hd na nL nF
    refine wpAny_handleBy_cons (codeAny_handlers_test ?_) (by intro q; cases q)
    have lt : PySem.W.Looks (model X.prog X.w) h3 (typeOf (.ref a)) cls :=
      fun A Q E s k q => wpAny_typeOf_ref (k _ _ he) (by rw [hz.1]; exact q)
    have lm := PySem.W.exm_one (M := model X.prog X.w) J3.kIn lt hm
    have nm : ∀ {Q : Value → Shared → Prop} {E : Value → Shared → Prop}, Q c { z with heap := h3 } →
        wpAny (model X.prog X.w) (X.A.mark (some (.ref a))) (eval (.Name x np) X.env) Q E { z with heap := h3 } := by
      intro Q E q
      rcases hc with ⟨g1, g2, g3 | ⟨g3, g4, g5⟩⟩
      · exact ld_glob (X := X.suite a ((a, oe) :: (X.pn ++ pins))) S3 g1 g3 q g2
      · exact ld_blt (X := X.suite a ((a, oe) :: (X.pn ++ pins))) S3 g1 g3 g4 q g5 g2
    refine nm (lm.here (codeAny_handlers_suite_as ?_))
    refine HandSPX.lands_againZ fl fun h4 fl4 up4 => ?_
    have J4 : Inv X pins σ1 H1 { z with heap := h4 } := J.landed nb fl4.1 ((up.trans up3).trans up4) os ag
    obtain ⟨oe4, vs4, he4, hz4, hd4⟩ := fl4.there
    have S4 := J4.suite he4 hd4 na nL nF
    refine store_ok (X := X.suite a ((a, oe4) :: (X.pn ++ pins))) (v := .ref a) S4 hN hi (.inl hln) rfl ?_ (.inr hln)
    intro s5 S5
    refine wpAny_mono ((hsu a oe4 cls d (X.pn ++ pins) hz4 ⟨_, hd4⟩).run [] s5 _ H1 _ S5 (hy a na)) ?_ fun _ _ q => q.elim
    intro f s6 hsp
    have fin : ∀ {σ6 : L2.St} {H6 : Hp} {Q : Shared → Prop}, Inv (X.suite a ((a, oe4) :: (X.pn ++ pins))) [] σ6 H6 s6 →
        (∀ s7, Inv X pins (σ6.set i none) H6 s7 → Q s7) →
        wpAny (model X.prog X.w) X.A (do bindName X.env n .none; unbindBehindTheSuite X.env n pos')
          (fun _ s7 => Q s7) X.xe s6 := fun S6 q => gone_ok (S6.unsuite ok) hN hi hln q
    match f, hsp with
    | .next, ⟨σ6, H6, S6, q⟩ => exact fin S6 fun s7 J7 => ⟨_, _, J7, q⟩
    | .brk, ⟨σ6, H6, S6, q⟩ => exact fin S6 fun s7 J7 => ⟨_, _, J7, q⟩
    | .cont, ⟨σ6, H6, S6, q⟩ => exact fin S6 fun s7 J7 => ⟨_, _, J7, q⟩
    | .ret u, ⟨v, σ6, H6, S6, r, q⟩ => exact fin S6 fun s7 J7 => ⟨_, _, _, J7, r, q⟩
  · intro f s1 hsp
    match f, hsp with
    | .next, ⟨σ', H', J', q⟩ => exact wpAny_execs_nil ⟨σ', H', J'.ofTry ok, q⟩
    | .brk, ⟨σ', H', J', q⟩ => exact ⟨σ', H', J'.ofTry ok, q⟩
    | .cont, ⟨σ', H', J', q⟩ => exact ⟨σ', H', J'.ofTry ok, q⟩
    | .ret u, ⟨v, σ', H', J', r, q⟩ => exact ⟨v, σ', H', J'.ofTry ok, r, q⟩
end
end Gx

set_option Elab.async false
set_option linter.all false
set_option maxRecDepth 100000
set_option maxHeartbeats 2000000
namespace Gx
open PySem PySem.Spec PyProof.Rows L2 Evl
section
variable {K : PySem.W.Frag} {H H' : Hp}
mutual
theorem dp_ex (e : Ex H H') : ∀ (d : PyData) (v : V), Dp K H v d → Dp K H' v d
  | .none, _, h => by cases h; exact .non
  | .bool b, _, h => by cases h; exact .bl b
  | .int i, _, h => by cases h; exact .int i
  | .str x, _, h => by cases h; exact .str x
  | .list ds, _, h => by
    cases h with
    | lst hs ha => exact .lst (ex_l e hs) (dpAll_ex e ds _ ha)
  | .tuple ds, _, h => by
    cases h with
    | tup hs ha => exact .tup (ex_t e hs) (dpAll_ex e ds _ ha)
  | .dict _, _, h => by cases h
theorem dpAll_ex (e : Ex H H') : ∀ (ds : List PyData) (vs : List V), DpAll K H vs ds → DpAll K H' vs ds
  | [], _, h => by cases h; exact .nil
  | d :: ds, _, h => by
    cases h with
    | cons h1 h2 => exact .cons (dp_ex e d _ h1) (dpAll_ex e ds _ h2)
end
theorem _root_.L2.Dp.to {v : V} {d : PyData} (h : Dp K H v d) (e : Ex H H') : Dp K H' v d := dp_ex e d v h
theorem _root_.L2.DpAll.to {vs : List V} {ds : List PyData} (h : DpAll K H vs ds) (e : Ex H H') : DpAll K H' vs ds := dpAll_ex e ds vs h
theorem _root_.L2.Dp.tup_inv {v : V} {ds : List PyData} (h : Dp K H v (.tuple ds)) : ∃ a xs, v = .ref a ∧ SqT K H a xs ∧ DpAll K H xs ds := by
  cases h with
  | tup hs ha => exact ⟨_, _, rfl, hs, ha⟩
theorem _root_.L2.Dp.lst_inv {v : V} {ds : List PyData} (h : Dp K H v (.list ds)) : ∃ a xs, v = .ref a ∧ SqL K H a xs ∧ DpAll K H xs ds := by
  cases h with
  | lst hs ha => exact ⟨_, _, rfl, hs, ha⟩
theorem _root_.L2.DpAll.len {vs : List V} {ds : List PyData} (h : DpAll K H vs ds) : vs.length = ds.length := by
  induction ds generalizing vs with
  | nil => cases h; rfl
  | cons d ds ih => cases h with | cons h1 h2 => simp [ih h2]
theorem _root_.L2.DpAll.get {vs : List V} {ds : List PyData} (h : DpAll K H vs ds) {i : Nat} {v : V} (e : vs[i]? = some v) : ∃ d, ds[i]? = some d ∧ Dp K H v d := by
  induction ds generalizing vs i with
  | nil => cases h; simp at e
  | cons d ds ih =>
    cases h with
    | cons h1 h2 =>
      cases i with
      | zero => simp at e; subst e; exact ⟨d, by simp, h1⟩
      | succ i => obtain ⟨d', q1, q2⟩ := ih h2 (i := i) (by simpa using e); exact ⟨d', by simpa using q1, q2⟩
theorem _root_.L2.DpAll.get' {vs : List V} {ds : List PyData} (h : DpAll K H vs ds) {i : Nat} {d : PyData} (e : ds[i]? = some d) : ∃ v, vs[i]? = some v ∧ Dp K H v d := by
  have hl := h.len
  have hi : i < ds.length := (List.getElem?_eq_some_iff.mp e).1
  have hv : vs[i]? = some (vs[i]'(by omega)) := List.getElem?_eq_getElem (by omega)
  obtain ⟨d', q1, q2⟩ := h.get hv
  rw [e] at q1; cases q1
  exact ⟨_, hv, q2⟩
theorem _root_.L2.DpAll.two {vs : List V} {a b : PyData} (h : DpAll K H vs [a, b]) : ∃ x y, vs = [x, y] ∧ Dp K H x a ∧ Dp K H y b := by
  cases h with
  | cons h1 h2 => cases h2 with
    | cons h2 h3 => cases h3; exact ⟨_, _, rfl, h1, h2⟩
theorem _root_.L2.DpAll.app {vs ws : List V} {ds es : List PyData} (h : DpAll K H vs ds) (h' : DpAll K H ws es) : DpAll K H (vs ++ ws) (ds ++ es) := by
  induction ds generalizing vs with
  | nil => cases h; exact h'
  | cons d ds ih => cases h with | cons h1 h2 => exact .cons h1 (ih h2)
theorem _root_.L2.DpAll.one {v : V} {d : PyData} (h : Dp K H v d) : DpAll K H [v] [d] := .cons h .nil
theorem _root_.L2.DpAll.take {vs : List V} {ds : List PyData} (n : Nat) (h : DpAll K H vs ds) : DpAll K H (vs.take n) (ds.take n) := by
  induction ds generalizing vs n with
  | nil => cases h; simp; exact .nil
  | cons d ds ih =>
    cases h with
    | cons h1 h2 =>
      cases n with
      | zero => exact .nil
      | succ n => exact .cons h1 (ih n h2)
theorem dpAll_ints : ∀ ns : List Int, DpAll K H (ns.map V.int) (ns.map PyData.int)
  | [] => .nil
  | n :: ns => .cons (.int n) (dpAll_ints ns)
theorem dpAll_ints_inv : ∀ {ns : List Int} {vs : List V}, DpAll K H vs (ns.map PyData.int) → vs = ns.map V.int
  | [], _, h => by cases h; rfl
  | n :: ns, _, h => by
    cases h with
    | cons h1 h2 => cases h1; rw [dpAll_ints_inv h2]; rfl
end
/-- how many signs repr may take -/
def wide : PyData → Nat
  | .none => 4
  | .bool _ => 5
  | .int _ => 1921
  | .str x => (reprText x).length
  | .list xs => wideAll xs + 2
  | .tuple xs => wideAll xs + 3
  | .dict _ => 0
where wideAll : List PyData → Nat
  | [] => 0
  | x :: xs => wide x + 2 + wideAll xs
theorem listText_wide (ts : List Str) : (listText ts).length ≤ piled ts + 2 := by
  unfold listText
  rw [strLen_append]
  have e1 : ((("]" : String) : Str)).length = 1 := rfl
  have e2 : ((("[" : String) : Str)).length = 1 := rfl
  have : ∀ (ts : List Str) (k : Nat) (acc : Str), (textFrom k acc ts).length ≤ acc.length + piled ts := by
    intro ts
    induction ts with
    | nil => intro k acc; simp [textFrom, piled]
    | cons t ts ih =>
      intro k acc
      unfold textFrom
      refine Nat.le_trans (ih _ _) ?_
      rw [piled_cons]
      have e3 : (((", " : String) : Str)).length = 2 := rfl
      have e4 : ((("" : String) : Str)).length = 0 := rfl
      split <;> (simp only [strLen_append]; omega)
  have h := this ts 0 (("[" : String) : Str)
  omega
theorem tupText_wide (ts : List Str) : (tupleText ts).length ≤ piled ts + 3 := by
  have e3 : (((if ts.length == 1 then ",)" else ")" : String) : Str)).length ≤ 2 := by split <;> decide +kernel
  have e1 : ((("(" : String) : Str)).length = 1 := rfl
  unfold tupleText
  rw [strLen_append, strLen_append, e1]
  by_cases h : ts = []
  · subst h
    have : (Str.join ", " ([] : List Str)).length = 0 := rfl
    omega
  · have := join_length_add ts h
    omega
mutual
theorem shown_wide : ∀ d : PyData, d.showable = true → d.hasDict = false → d.shown.length ≤ wide d
  | .none, _, _ => by simp only [PyData.shown, wide]; decide
  | .bool b, _, _ => by cases b <;> (simp only [PyData.shown, wide]; decide)
  | .int i, h, _ => by
    simp only [PyData.shown, wide]
    exact PyProof.Rows.int_text_len_1921 (of_decide_eq_true (by simpa only [PyData.showable] using h))
  | .str x, _, _ => by simp only [PyData.shown, wide]; exact Nat.le_refl _
  | .list xs, h, h' => by
    simp only [PyData.shown, wide]
    have q := shown_wideAll xs (by simpa only [PyData.showable] using h) (by simpa only [PyData.hasDict] using h')
    exact Nat.le_trans (listText_wide _) (by omega)
  | .tuple xs, h, h' => by
    simp only [PyData.shown, wide]
    have q := shown_wideAll xs (by simpa only [PyData.showable] using h) (by simpa only [PyData.hasDict] using h')
    exact Nat.le_trans (tupText_wide _) (by omega)
  | .dict _, _, h' => by simp [PyData.hasDict] at h'
theorem shown_wideAll : ∀ ds : List PyData, PyData.showableAll ds = true → PyData.hasDictAll ds = false → piled (PyData.shownAll ds) ≤ wide.wideAll ds
  | [], _, _ => by simp [PyData.shownAll, piled, wide.wideAll]
  | d :: ds, h, h' => by
    simp only [PyData.showableAll, Bool.and_eq_true] at h
    simp only [PyData.hasDictAll, Bool.or_eq_false_iff] at h'
    have q1 := shown_wide d h.1 h'.1
    have q2 := shown_wideAll ds h.2 h'.2
    simp only [PyData.shownAll, piled_cons, wide.wideAll]
    omega
end
section
variable {X : Cx}
def rRep (K : PySem.W.Frag) : List V → Hp → VK → Prop := fun xs H Q =>
  ∃ v d, xs = [v] ∧ Dp K H v d ∧ d.showable = true ∧ d.hasDict = false ∧ d.depth ≤ 100 ∧ wide d ≤ 10000000 ∧ Q (.str d.shown) H
theorem big_sz : (10000000 : Nat) ≤ sizeLine := by rw [sizeLine_eq]; decide
theorem call_repD (qu : Quiet X.A) (hu : X.A.units + 200 < cLine) : CallR X (.builtin "repr") (rRep X.K) := by
  intro pins s σ H xs us Q I rv h
  obtain ⟨v, d, rfl, hd, h1, h2, h3, h4, q⟩ := h
  obtain ⟨u, rfl, ru⟩ := vals1 rv
  obtain ⟨as, rd⟩ := Dp.reads I d v u hd ru
  have sz : d.shown.length ≤ sizeLine := Nat.le_trans (shown_wide d h1 h2) (Nat.le_trans h4 big_sz)
  have fin : ∀ h' t tk, (∀ b o, s.heap.get? b = some o → h'.get? b = some o) → EP X pins σ Q (.str d.shown t) { s with heap := h', toks := tk } :=
    fun h' t tk k => ⟨.str _, H, I.kept k, ⟨_, rfl⟩, q⟩
  cases hd with
  | non =>
    obtain rfl : u = Value.none := ru
    exact PySem.P.repr_of_none (fin s.heap _ _ fun _ _ e => e)
  | bl b =>
    obtain rfl : u = Value.bool b := ru
    refine PySem.P.repr_of_bool ?_
    have z := fin s.heap s.toks (s.toks + 1) fun _ _ e => e
    simp only [PyData.shown] at z
    cases b <;> exact z
  | int i =>
    obtain ⟨t, rfl⟩ := ru
    refine PySem.P.repr_of_int (of_decide_eq_true (by simpa only [PyData.showable] using h1)) ?_
    exact fin s.heap _ _ fun _ _ e => e
  | str x =>
    obtain ⟨t, rfl⟩ := ru
    exact PySem.P.repr_of_str (fin s.heap _ _ fun _ _ e => e) sz
  | lst hs ha =>
    obtain rfl : u = Value.ref _ := ru
    exact repr_of_reads' rd h1 (PyData.noDict_hsm h2) qu (by omega) (fun _ _ e => e) (fun h' t tk k => fin h' t tk k) sz
  | tup hs ha =>
    obtain rfl : u = Value.ref _ := ru
    exact repr_of_reads' rd h1 (PyData.noDict_hsm h2) qu (by omega) (fun _ _ e => e) (fun h' t tk k => fin h' t tk k) sz
/-- // by any divisor but 0, of fewer than 9000 bits -/
def CDivZ (_ j : Int) : Prop := j ≠ 0 ∧ j.natAbs.log2 < 9000
theorem op_fdivZ : OpR X (binaryOp .FloorDiv) (rI CDivZ fun i j => .int (i.fdiv j)) := opI fun i j _ _ _ _ _ hc q =>
  floordiv_int hc.1 q (.inl (PyProof.noPylong_of_log2 hc.2))
end
end Gx

set_option Elab.async false
set_option linter.all false
set_option maxRecDepth 100000
set_option maxHeartbeats 2000000
namespace Gx
open PySem PySem.Spec PyProof.Rows L2 Evl
/-! A list of the law's own that calls change, told by what stays true of it: the abstract heap stays as it is. -/
def plainO : HO → Bool
  | .tup _ => false
  | .frz _ _ => false
  | .tbl _ => false
  | .own _ => false
  | _ => true
section
variable {P : Program} {w : World} {H H1 : Hp} {h h' : Heap} {b : Addr} {u u1 u2 : HO} {fs ex : List Addr}
theorem hok_swap (ok : HOk P w H h) (hb : H b = some u) (hp : plainO u = true) (ob : ObjOk P w (upd H b u1) h b u1) :
    HOk P w (upd H b u1) h := by
  intro a o e
  by_cases hab : a = b
  · subst hab
    rw [upd_same] at e
    cases e
    exact ob
  · rw [upd_ne hab] at e
    refine (ok a o e).stay (fun _ _ _ q => q) (fun c q => ?_) (fun c xs q => ?_)
    · rw [upd_ne (fun z => by rw [z, hb] at q; cases q; cases hp)]; exact q
    · rw [upd_ne (fun z => by rw [z, hb] at q; cases q; cases hp)]; exact q
theorem un_seal (hb : H b = some u) (un : Un fs ex (upd H b u1) (upd H b u2) h h') : Un fs ex H H h h' := by
  have nb : ∀ c, H c = none → c ≠ b := fun c n z => by rw [z, hb] at n; cases n
  refine ⟨fun c o q n hc hx => ?_, fun c o q n hc hx => ?_, fun _ _ _ n _ => n, fun c o q hx => un.there c o q hx,
    fun _ _ q => q, fun _ _ _ q => q, fun c ps q => ⟨#[], by rw [q]; simp⟩⟩
  · exact un.keep c o q (by rw [upd_ne (nb c n)]; exact n) hc hx
  · exact un.slot c o q (by rw [upd_ne (nb c n)]; exact n) hc hx
theorem un_new (hb : H1 b = some u) (hp : plainO u = true) (un : Un fs ex H H1 h h') : Un fs ex H (upd H1 b u1) h h' := by
  refine ⟨un.keep, un.slot, fun c o q n hx => ?_, un.there, fun c xs q => ?_, fun c o v q => ?_, fun c ps q => ?_⟩
  · have z := un.free c o q n hx
    rw [upd_ne (fun e => by rw [e, hb] at z; cases z)]; exact z
  · have z := un.tups c xs q
    rw [upd_ne (fun e => by rw [e, hb] at z; cases z; cases hp)]; exact z
  · have z := un.frzs c o v q
    rw [upd_ne (fun e => by rw [e, hb] at z; cases z; cases hp)]; exact z
  · obtain ⟨more, z⟩ := un.tbls c ps q
    exact ⟨more, by rw [upd_ne (fun e => by rw [e, hb] at z; cases z; cases hp)]; exact z⟩
end
theorem upd_self {H : Hp} {b : Addr} {u : HO} (h : H b = some u) : upd H b u = H := by
  funext c
  by_cases e : c = b
  · subst e; rw [upd_same, h]
  · rw [upd_ne e]
/-! ### the bag -/
def BagAt (b l : Addr) (h : Heap) : Prop := ∃ (p q r : Int) (t1 t2 t3 : Tok) (n : Nat),
  h.get? b = some { cls := .type "list", data := .seq #[.int p t1, .int q t2, .int r t3, .ref l] n } ∧
    0 ≤ p ∧ 0 ≤ q ∧ q < 2147483647 ∧ 0 ≤ r
def BagO (b l : Addr) : HO := .ext (BagAt b l)
def bagL (p q r : Int) (l : Addr) : List V := [.int p, .int q, .int r, .ref l]
structure Bag (H : Hp) (b : Addr) : Prop where
  ex : ∃ (l : Addr) (cs : List Int), H b = some (BagO b l) ∧ H l = some (.lst (cs.map V.int)) ∧ ∀ c ∈ cs, 0 ≤ c
theorem Bag.to {H H' : Hp} {b : Addr} (g : Bag H b) (e : Ex H H') : Bag H' b := by
  obtain ⟨l, cs, h1, h2, h3⟩ := g.ex
  exact ⟨l, cs, e _ _ h1, e _ _ h2, h3⟩
theorem bag_objOk {P : Program} {w : World} {H : Hp} {h : Heap} {b l : Addr} (x : BagAt b l h) : ObjOk P w H h b (BagO b l) := by
  refine ⟨x, ?_, fun h1 h2 y k => ?_⟩
  · obtain ⟨p, q, r, t1, t2, t3, n, e, _⟩ := x
    exact ⟨_, e⟩
  · obtain ⟨p, q, r, t1, t2, t3, n, e, z⟩ := y
    exact ⟨p, q, r, t1, t2, t3, n, k _ e, z⟩
theorem bag_open {P : Program} {w : World} {H : Hp} {h : Heap} {b l : Addr} (ok : HOk P w H h) (hb : H b = some (BagO b l)) :
    ∃ p q r : Int, (0 ≤ p ∧ 0 ≤ q ∧ q < 2147483647 ∧ 0 ≤ r) ∧ HOk P w (upd H b (.lst (bagL p q r l))) h := by
  obtain ⟨⟨p, q, r, t1, t2, t3, n, e, z⟩, _⟩ := ok b _ hb
  refine ⟨p, q, r, z, hok_swap ok hb rfl ⟨by show 4 ≤ sizeLine; decide, [.int p t1, .int q t2, .int r t3, .ref l], n, ?_, e⟩⟩
  exact .cons ⟨_, rfl⟩ (.cons ⟨_, rfl⟩ (.cons ⟨_, rfl⟩ (.cons rfl .nil)))
theorem bag_close {P : Program} {w : World} {H : Hp} {h : Heap} {b l : Addr} {p q r : Int} (ok : HOk P w H h)
    (hb : H b = some (.lst (bagL p q r l))) (z : 0 ≤ p ∧ 0 ≤ q ∧ q < 2147483647 ∧ 0 ≤ r) : BagAt b l h := by
  obtain ⟨_, its, n, rv, e⟩ := ok b _ hb
  unfold bagL at rv
  cases rv with
  | cons r1 rv => cases rv with
    | cons r2 rv => cases rv with
      | cons r3 rv => cases rv with
        | cons r4 rv =>
          cases rv
          obtain ⟨t1, rfl⟩ := r1
          obtain ⟨t2, rfl⟩ := r2
          obtain ⟨t3, rfl⟩ := r3
          obtain rfl := r4
          exact ⟨p, q, r, t1, t2, t3, n, e, z⟩
/-- what _law_take promises: some number below many, and nothing that is told has changed -/
def spTake : Sp := fun vs H Q _ => ∃ (b : Addr) (many : Int), vs = [.ref b, .int many] ∧ Bag H b ∧ 0 < many ∧ many < 1073741824 ∧
  ∀ x : Int, 0 ≤ x → x < many → Q (.int x) H
/-- .. and what its body does to the list -/
def spTakeI : Sp := fun vs H Q _ => ∃ (b l : Addr) (many p q r : Int) (cs : List Int), vs = [.ref b, .int many] ∧
  H b = some (.lst (bagL p q r l)) ∧ H l = some (.lst (cs.map V.int)) ∧ b ≠ l ∧ (∀ c ∈ cs, 0 ≤ c) ∧
  (0 ≤ p ∧ 0 ≤ q ∧ q < 2147483647 ∧ 0 ≤ r) ∧ 0 < many ∧ many < 1073741824 ∧
  ∀ x p' q' r' : Int, 0 ≤ x → x < many → (0 ≤ p' ∧ 0 ≤ q' ∧ q' < 2147483647 ∧ 0 ≤ r') →
    Q (.int x) (upd H b (.lst (bagL p' q' r' l)))
def spBag (K : PySem.W.Frag) : Sp := fun vs H Q _ => ∃ (a : Addr) (ns : List Int), vs = [.ref a] ∧ SqL K H a (ns.map V.int) ∧ ns.length ≤ 1000 ∧
  ∀ b H', Ex H H' → Bag H' b → Q (.ref b) H'
def spBagI (K : PySem.W.Frag) : Sp := fun vs H Q _ => ∃ (a : Addr) (ns : List Int), vs = [.ref a] ∧ SqL K H a (ns.map V.int) ∧ ns.length ≤ 1000 ∧
  ∀ (b l : Addr) (cs : List Int) (H' : Hp), Ex H H' → H b = none → H' b = some (.lst (bagL 0 1234567891 0 l)) →
    H' l = some (.lst (cs.map V.int)) → (∀ c ∈ cs, 0 ≤ c) → Q (.ref b) H'
section
variable {P : Program} {w : World} {K : PySem.W.Frag} {mg : Str → Option Value} {base : Heap} {k : Nat} {f : Addr} {fd : FuncData}
theorem take_sealed (F : FnOk P w K mg base CX0 k f fd ["_law_bag_here", "_law_many"] spTakeI) :
    FnOk P w K mg base CX0 k f fd ["_law_bag_here", "_law_many"] spTake := by
  refine ⟨fun vs H Q E h => ?_, fun A outer s H args us vs Q E rm e0 bd rv h => ?_⟩
  · obtain ⟨b, many, rfl, _⟩ := h; rfl
  · obtain ⟨b, many, rfl, ⟨l, cs, hb, hl, hc⟩, m0, m1, kq⟩ := h
    obtain ⟨p, q, r, z, ok1⟩ := bag_open e0.hok hb
    have nbl : b ≠ l := fun e => by rw [e, hl] at hb; cases hb
    have e1 : Env0 P w K mg base A outer s (upd H b (.lst (bagL p q r l))) := by
      refine ⟨e0.frames, e0.mod, fun c o q => ?_, e0.bsz, e0.funs, fun c hc => ?_, ok1, e0.bare⟩
      · obtain ⟨x1, x2⟩ := e0.bs c o q
        exact ⟨x1, by rw [upd_ne (fun e => by rw [e, hb] at x2; cases x2)]; exact x2⟩
      · have x2 := e0.frf c hc
        rw [upd_ne (fun e => by rw [e, hb] at x2; cases x2)]; exact x2
    refine codeAny_mono (F.run A outer s _ args us [.ref b, .int many]
      (fun v H' => ∃ (x p' q' r' : Int), v = .int x ∧ 0 ≤ x ∧ x < many ∧ (0 ≤ p' ∧ 0 ≤ q' ∧ q' < 2147483647 ∧ 0 ≤ r') ∧ H' = upd (upd H b (.lst (bagL p q r l))) b (.lst (bagL p' q' r' l)))
      E rm e1 bd rv ⟨b, l, many, p, q, r, cs, rfl, upd_same, by rw [upd_ne nbl.symm]; exact hl, nbl, hc, z, m0, m1,
        fun x p' q' r' h0 h1 zz => ⟨x, p', q', r', rfl, h0, h1, zz, rfl⟩⟩) ?_
    intro r s' hq
    match r, hq with
    | .ok (.ret u), ⟨v, H', os, bare, un, ok', rv', x, p', q', r', ev, h0, h1, zz, eH⟩ =>
      subst eH
      rw [upd_upd] at un ok'
      have at_ := bag_close ok' upd_same zz
      have ok2 := hok_swap (u1 := BagO b l) ok' upd_same rfl (bag_objOk at_)
      rw [upd_upd, upd_self hb] at ok2
      exact ⟨v, H, os, bare, un_seal hb un, ok2, rv', by rw [ev]; exact kq x h0 h1⟩
theorem bag_sealed (F : FnOk P w K mg base CX0 k f fd ["_law_script"] (spBagI K)) : FnOk P w K mg base CX0 k f fd ["_law_script"] (spBag K) := by
  refine ⟨fun vs H Q E h => ?_, fun A outer s H args us vs Q E rm e0 bd rv h => ?_⟩
  · obtain ⟨a, ns, rfl, _⟩ := h; rfl
  · obtain ⟨a, ns, rfl, hs, hl, kq⟩ := h
    refine codeAny_mono (F.run A outer s H args us [.ref a]
      (fun v H' => ∃ (b l : Addr) (cs : List Int), v = .ref b ∧ Ex H H' ∧ H b = none ∧ H' b = some (.lst (bagL 0 1234567891 0 l)) ∧
        H' l = some (.lst (cs.map V.int)) ∧ (∀ c ∈ cs, 0 ≤ c))
      E rm e0 bd rv ⟨a, ns, rfl, hs, hl, fun b l cs H' x1 x2 x3 x4 x5 => ⟨b, l, cs, rfl, x1, x2, x3, x4, x5⟩⟩) ?_
    intro r s' hq
    match r, hq with
    | .ok (.ret u), ⟨v, H', os, bare, un, ok', rv', b, l, cs, ev, ex, nb, hb, hl', hc⟩ =>
      have at_ := bag_close ok' hb ⟨by decide, by decide, by decide, by decide⟩
      have ok2 := hok_swap (u1 := BagO b l) ok' hb rfl (bag_objOk at_)
      have nbl : l ≠ b := fun e => by rw [e, hb] at hl'; injection hl' with e1; injection e1 with e2; cases cs with
        | nil => cases e2
        | cons c cs => cases cs with
          | nil => cases e2
          | cons c2 cs => cases cs with
            | nil => cases e2
            | cons c3 cs => cases cs with
              | nil => cases e2
              | cons c4 cs => cases e2
      refine ⟨v, _, os, bare, un_new hb rfl un, ok2, rv', ?_⟩
      subst ev
      refine kq b _ (ex.mut nb) ⟨l, cs, upd_same, by rw [upd_ne nbl]; exact hl', hc⟩
end
end Gx

set_option Elab.async false
set_option linter.all false
set_option maxRecDepth 100000
set_option maxHeartbeats 2000000
namespace Gx
open PySem PySem.Spec PyProof.Rows L2 Evl
/-- the built-in names that the text uses are still the built-in ones -/
structure Bi (mg : Str → Option Value) : Prop where
  len : mg "len" = none
  abs : mg "abs" = none
  max : mg "max" = none
  min : mg "min" = none
  repr : mg "repr" = none
  int : mg "int" = none
  tuple : mg "tuple" = none
  list : mg "list" = none
  dict : mg "dict" = none
  isinstance : mg "isinstance" = none
  sorted : mg "sorted" = none
  sum : mg "sum" = none
  all : mg "all" = none
  any : mg "any" = none
  range : mg "range" = none
  enumerate : mg "enumerate" = none
  zip : mg "zip" = none
  bool : mg "bool" = none
  str : mg "str" = none
  set : mg "set" = none
theorem bt_len : bootBuiltins "len" = some (.builtin "len") := by decide +kernel
theorem bt_abs : bootBuiltins "abs" = some (.builtin "abs") := by decide +kernel
theorem bt_max : bootBuiltins "max" = some (.builtin "max") := by decide +kernel
theorem bt_min : bootBuiltins "min" = some (.builtin "min") := by decide +kernel
theorem bt_repr : bootBuiltins "repr" = some (.builtin "repr") := by decide +kernel
theorem bt_int : bootBuiltins "int" = some (.type "int") := by decide +kernel
theorem bt_tuple : bootBuiltins "tuple" = some (.type "tuple") := by decide +kernel
theorem bt_list : bootBuiltins "list" = some (.type "list") := by decide +kernel
theorem bt_dict : bootBuiltins "dict" = some (.type "dict") := by decide +kernel
theorem bt_isinstance : bootBuiltins "isinstance" = some (.builtin "isinstance") := by decide +kernel
theorem bt_sorted : bootBuiltins "sorted" = some (.builtin "sorted") := by decide +kernel
theorem bt_sum : bootBuiltins "sum" = some (.builtin "sum") := by decide +kernel
theorem bt_all : bootBuiltins "all" = some (.builtin "all") := by decide +kernel
theorem bt_bool : bootBuiltins "bool" = some (.type "bool") := by decide +kernel
theorem bt_str : bootBuiltins "str" = some (.type "str") := by decide +kernel
theorem bt_set : bootBuiltins "set" = some (.type "set") := by decide +kernel
theorem bt_any : bootBuiltins "any" = some (.builtin "any") := by decide +kernel
/-- a def of the top as the head leaves it -/
structure Def (K : PySem.W.Frag) (mg : Str → Option Value) (x : Str) (st : Stmt) (f : Addr) (fd : FuncData) (ps : List Str) : Prop where
  fn : Fun K x x st f fd
  mg : mg x = some (.ref f)
  bd : Binds K fd ps []
/-- .. by what the head tells of it -/
def IsDef (K : PySem.W.Frag) (x qual : Str) (st : Stmt) (f : Addr) : Prop :=
  ∃ (oc : Value) (od : Option Addr) (kV doc pm : Value) (an : Option Addr) (cdv ct : Value) (osl : Array (Option Value)),
    K.lookup f = some ⟨oc, od, .func (PySem.W.fnOf x qual (defArgs st) (defBody st) (defScope st) .none kV doc pm an cdv ct), osl⟩ ∧
      PySem.W.codeIn K cdv qual = true ∧ PySem.W.keepIn K (.ref f) = true
theorem IsDef.fn {K : PySem.W.Frag} {x qual : Str} {st : Stmt} {f : Addr} (d : IsDef K x qual st f) : ∃ fd, Fun K x qual st f fd := by
  obtain ⟨oc, od, kV, doc, pm, an, cdv, ct, osl, l, c, k⟩ := d
  exact ⟨_, fun_mk l c k⟩
theorem def_mk {K : PySem.W.Frag} {h : Heap} {mg : Str → Option Value} {x : Str} {st : Stmt} {f : Addr} {ps : List Str}
    (X : K.In h) (G : h.Ns mainGlobals mg) (a : PySem.W.nsIn K mainGlobals x = some (some (.ref f))) (d : IsDef K x x st f)
    (hb : ∀ (kV doc pm : Value) (an : Option Addr) (cdv ct : Value) (us : List Value), us.length = ps.length →
      bindArgs (PySem.W.fnOf x x (defArgs st) (defBody st) (defScope st) .none kV doc pm an cdv ct) ⟨us, []⟩ = pure (ps.zip us)) :
    ∃ fd, Def K mg x st f fd ps := by
  obtain ⟨fd, F⟩ := d.fn
  exact ⟨fd, F, PySem.W.mg_of X G a, F.binds hb⟩
/-- a quiet def from which no exception leaves -/
theorem fnq_ok {P : Program} {w : World} {K : PySem.W.Frag} {mg : Str → Option Value} {base : Heap}
    {x qual : Str} {st : Stmt} {f : Addr} {fd : FuncData} {N ps : List Str} {k : Nat} {sp : Sp}
    (F : Fun K x qual st f fd) (S : FnScope N ps (defScope st))
    (len : ∀ vs H Q E, sp vs H Q E → vs.length = ps.length)
    (walk : ∀ (cdv : Value) (A : Around) (outer : List Env) (s : Shared) (H : Hp) (vs : List V) (Q : VK) (E : XK),
      Room k (A.deeper (envOfC qual (defScope st) s.heap.objs.size f cdv)) →
      Quiet (A.deeper (envOfC qual (defScope st) s.heap.objs.size f cdv)) → sp vs H Q E →
      ∃ t, PSs (cxOf CX0 P w K mg base N qual (defScope st) f cdv A outer s H E).nox (defBody st) t ∧
        t { nx := fun _ H' => Q .non H', rt := Q } (start N vs) H) :
    FnQ P w K mg base CX0 (k + 1) f fd ps sp :=
  fnq_of F S len fun cdv A outer s H vs Q E rm qu h =>
    let ⟨t, a, b⟩ := walk cdv A outer s H vs Q E rm qu h
    ⟨t, a.nox, b⟩
section
variable {X : Cx}
def rGetL (K : PySem.W.Frag) : V → V → Hp → VK → Prop := fun o i H Q => ∃ p xs k v, o = .ref p ∧ i = .int k ∧ SqL K H p xs ∧
  0 ≤ k ∧ k < 1000000 ∧ xs[k.toNat]? = some v ∧ Q v H
theorem get_list : PGet X (rGetL X.K) := by
  intro pins s σ H o i ov iv Q I ro ri h
  obtain ⟨p, xs, k, v, rfl, rfl, hs, h0, h1, hx, q⟩ := h
  obtain rfl : ov = Value.ref p := ro
  obtain ⟨t, rfl⟩ := ri
  obtain ⟨its, r, pl, hz⟩ := I.list hs
  obtain ⟨u, hu, ru⟩ := r.get hx
  exact wpAny_getItem_list pl.isList h0 (by omega) (by simpa using hu) ⟨v, H, I, ru, q⟩
end
theorem ex_upd {H H' : Hp} {p : Addr} {o : HO} (e : Ex H H') (n : H' p = none) : Ex H (upd H' p o) := e.trans (Ex.new n)
/-- a test read out -/
theorem if_d {c A B : Prop} [Decidable c] (h1 : c → A) (h2 : ¬ c → B) : if decide c = true then A else B := by
  by_cases h : c
  · rw [if_pos (decide_eq_true h)]; exact h1 h
  · rw [if_neg (by rw [decide_eq_false h]; exact Bool.false_ne_true)]; exact h2 h
theorem if_nd {c A B : Prop} [Decidable c] (h1 : ¬ c → A) (h2 : c → B) : if (!decide c) = true then A else B := by
  by_cases h : c
  · rw [decide_eq_true h]; exact iteF (h2 h)
  · rw [decide_eq_false h]; exact iteT (h1 h)
theorem V_int_eq {a b : Int} : (V.int a = V.int b) = (a = b) := propext ⟨fun h => V.int.inj h, fun h => by rw [h]⟩
theorem atI_of {α : Type} {xs : List α} {i : Int} {v : α} (h0 : 0 ≤ i) (h : xs[i.toNat]? = some v) : atI xs i = some v := by
  have hl := (List.getElem?_eq_some_iff.mp h).1
  unfold atI ixN
  rw [if_pos h0, if_pos (by omega)]
  exact h
theorem get_of {α : Type} {xs : List α} {i : Int} (h0 : 0 ≤ i) (h1 : i < xs.length) : ∃ v, xs[i.toNat]? = some v ∧ v ∈ xs := by
  have hl : i.toNat < xs.length := by omega
  exact ⟨xs[i.toNat], List.getElem?_eq_getElem hl, List.getElem_mem hl⟩
end Gx

set_option Elab.async false
set_option linter.all false
set_option maxRecDepth 100000
set_option maxHeartbeats 4000000
namespace K17
open PySem PySem.Spec PyProof.Rows L2 Evl Gx
def topS (i : Nat) : Stmt := PySem.Challenge.pw_refusedahead_k17_numbers_led_on.main.body.getD i (.Pass ⟨0, 0, 0, 0⟩)
abbrev s_l_bag : Stmt := topS 8
theorem sc_l_bag : FnScope ["_law_script", "_law_cell"] ["_law_script"] (defScope s_l_bag) := ⟨rfl, rfl, rfl, by decide +kernel, rfl, by decide +kernel, by decide +kernel⟩
abbrev s_l_take : Stmt := topS 9
theorem sc_l_take : FnScope ["_law_bag_here", "_law_many", "_law_cell", "_law_mixed", "_law_drawn", "_law_begin", "_law_second"] ["_law_bag_here", "_law_many"] (defScope s_l_take) := ⟨rfl, rfl, rfl, by decide +kernel, rfl, by decide +kernel, by decide +kernel⟩
section
variable {P : Program} {w : World} {K : PySem.W.Frag} {mg : Str → Option Value} {base : Heap}
theorem ok_bagI {f : Addr} {fd : FuncData} (D : Def K mg "_law_bag" s_l_bag f fd ["_law_script"]) (bi : Bi mg) :
    FnOk P w K mg base CX0 1 f fd ["_law_script"] (spBagI K) := by
  refine D.fn.ok sc_l_bag (fun vs H Q E h => ?_) (fun cdv A outer s H vs Q E hr h => ?_)
  · obtain ⟨a, ns, rfl, _⟩ := h
    rfl
  · obtain ⟨a, ns, rfl, hs, hl, k⟩ := h
    refine ⟨_, (pss_one (ps_ret (pe_lst (pa_cons pe_int (pa_cons pe_int (pa_cons pe_int (pa_cons (pe_lc (own := [("_law_cell", 1)]) rfl sc_l_bag.nd (pi_list (pe_slice sl_list (pv 0) po_none (po_some pe_int))) (blkOk_by (N := ["_law_script", "_law_cell"]) (sc := defScope s_l_bag) (by decide +kernel)) (fun _ _ _ _ _ => (pg_name (i := 1) sc_l_bag.nd rfl (Or.inl rfl))) (fun _ _ _ _ _ => pts_nil) (fun _ _ _ _ _ => (pe_callB call_abs (by rfl) bi.abs bt_abs (pa_cons (pv 1) pa_nil)))) pa_nil))))))), ?_⟩
    refine ⟨_, rfl, 63, rfl, a, ns.map V.int, rfl, hs, fun c hcn => ?_⟩
    have cut : cutV (ns.map V.int) none (some 63) = (ns.take 63).map V.int := by
      unfold cutV
      rw [show HT.sIx (ns.map V.int).length 0 none = 0 from rfl, List.drop_zero, Nat.sub_zero]
      have e : HT.sIx (ns.map V.int).length (ns.map V.int).length (some 63) = min 63 (ns.map V.int).length := rfl
      rw [e, List.map_take]
      by_cases q : 63 ≤ (ns.map V.int).length
      · rw [Nat.min_eq_left q]
      · rw [Nat.min_eq_right (by omega), List.take_length, List.take_of_length_le (by omega)]
    rw [cut]
    refine ⟨c, rfl, ⟨_, SqL.of upd_same⟩, fun d hd => ?_⟩
    refine lc_list (xs := (ns.take 63).map V.int) (fun i H' => H' c = some (.lst ((ns.take 63).map V.int)) ∧ Ex H H' ∧ H d = none ∧ d ≠ c ∧
      ∃ cs : List Int, H' d = some (.lst (cs.map V.int)) ∧ cs.length = i ∧ ∀ x ∈ cs, 0 ≤ x) ?_ (fun i H' _ p => SqL.of p.1) ?_ ?_
    · have ncd : d ≠ c := fun e => by subst e; rw [upd_same] at hd; cases hd
      have hd0 : H d = none := by rw [upd_ne ncd] at hd; exact hd
      refine ⟨by rw [upd_ne ncd.symm]; exact upd_same, ?_, hd0, ncd, [], upd_same, rfl, by simp⟩
      exact (Ex.new hcn).trans (Ex.new hd)
    · rintro i x H' hi ⟨p1, p2, p3, p4, cs, p5, p6, p7⟩
      obtain ⟨z, rfl⟩ : ∃ z, x = V.int z := by
        rw [List.getElem?_map] at hi
        obtain ⟨z, _, e⟩ := Option.map_eq_some_iff.mp hi
        exact ⟨z, e.symm⟩
      have hil : i < 63 := by
        have := (List.getElem?_eq_some_iff.mp hi).1
        rw [List.length_map, List.length_take] at this
        omega
      refine ⟨rfl, _, rfl, z, rfl, cs.map V.int, p5, by rw [List.length_map]; exact small1000 (by omega), ?_⟩
      refine ⟨by rw [upd_ne p4.symm]; exact p1, p2.mut p3, p3, p4, cs ++ [if z < 0 then -z else z], ?_, by simp [p6], ?_⟩
      · rw [upd_same, List.map_append]; rfl
      · intro y hy
        rcases List.mem_append.mp hy with q | q
        · exact p7 y q
        · rw [List.mem_singleton] at q; subst q; split <;> omega
    · rintro H' ⟨p1, p2, p3, p4, cs, p5, p6, p7⟩
      refine ⟨by show 4 ≤ sizeLine; decide, fun p hp => ?_⟩
      have ndp : d ≠ p := fun e => by subst e; rw [p5] at hp; cases hp
      exact k p d cs _ (ex_upd p2 hp) (fresh_back p2 hp) upd_same (by rw [upd_ne ndp]; exact p5) p7
theorem ok_takeI {f : Addr} {fd : FuncData} (D : Def K mg "_law_take" s_l_take f fd ["_law_bag_here", "_law_many"]) (bi : Bi mg) :
    FnOk P w K mg base CX0 1 f fd ["_law_bag_here", "_law_many"] spTakeI := by
  refine D.fn.ok sc_l_take (fun vs H Q E h => ?_) (fun cdv A outer s H vs Q E hr h => ?_)
  · obtain ⟨b, l, many, p, q, r, cs, rfl, _⟩ := h
    rfl
  · obtain ⟨b, l, many, p, q, r, cs, rfl, hb, hl, nbl, hc, z, m0, m1, k⟩ := h
    refine ⟨_, (Evl.pss_cut (ps_if (pt_cmpR op_eq (pe_ix ix_list (pv 0) pe_int (fun _ _ => rfl)) pe_int (nomark _))
    (pss_cons (ps_set (i := 2) sc_l_take.nd rfl (Or.inl rfl) pe_int)
    (Evl.pss_cut (ps_if (pt_cmpR op_lt (pe_ix ix_list (pv 0) pe_int (fun _ _ => rfl)) (pe_callB call_len_seq (by rfl) bi.len bt_len (pa_cons (pe_ix ix_list (pv 0) pe_int (fun _ _ => rfl)) pa_nil)) (nomark _))
      (pss_one (ps_set (i := 2) sc_l_take.nd rfl (Or.inl rfl) (pe_ix ix_list (pe_ix ix_list (pv 0) pe_int (fun _ _ => rfl)) (pe_ix ix_list (pv 0) pe_int (fun _ _ => rfl)) (fun _ _ => rfl))))
      pss_nil)
    (pss_cons (ps_augS (pv 0) pe_int get_list pe_int ip_add set_list)
    (Evl.pss_cut (ps_if (pt_cmpR op_ge (pv 2) (pe_op op_pow pe_int pe_int) (nomark _))
      (pss_one (ps_asg (pv 2) (pg_sub (pv 0) pe_int set_list)))
      pss_nil)
    (pss_cons (ps_set (i := 3) sc_l_take.nd rfl (Or.inl rfl) (pe_op op_add (pe_op op_add (pe_op op_mul (pe_ix ix_list (pv 0) pe_int (fun _ _ => rfl)) pe_int) (pe_op op_mod (pe_callTy call_int1 (by rfl) bi.int bt_int (pa_cons (pv 2) pa_nil)) pe_int)) (pe_op op_mul pe_int (pe_ix ix_list (pv 0) pe_int (fun _ _ => rfl)))))
    (pss_one (ps_asg (pe_op op_mod (pe_callTy call_int1 (by rfl) bi.int bt_int (pa_cons (pv 3) pa_nil)) pe_int) (pg_sub (pv 0) pe_int set_list))))))))
    pss_nil)
  (pss_cons (ps_if (pt_cmpR op_gt (pe_ix ix_list (pv 0) pe_int (fun _ _ => rfl)) pe_int (nomark _))
    (pss_cons (ps_set (i := 4) sc_l_take.nd rfl (Or.inl rfl) (pe_op op_mod (pe_callTy call_int1 (by rfl) bi.int bt_int (pa_cons (pe_ix ix_list (pv 0) pe_int (fun _ _ => rfl)) pa_nil)) (pv 1)))
    (pss_cons (ps_asg (pe_op op_fdiv (pe_ix ix_list (pv 0) pe_int (fun _ _ => rfl)) (pv 1)) (pg_sub (pv 0) pe_int set_list))
    (pss_one (ps_ret (pv 4)))))
    pss_nil)
  (pss_cons (ps_set (i := 5) sc_l_take.nd rfl (Or.inl rfl) (pe_op op_mod (pe_callTy call_int1 (by rfl) bi.int bt_int (pa_cons (pe_op op_mul (pe_op op_add (pe_ix ix_list (pv 0) pe_int (fun _ _ => rfl)) pe_int) pe_int) pa_nil)) pe_int))
  (pss_cons (ps_set (i := 6) sc_l_take.nd rfl (Or.inl rfl) (pe_op op_mod (pe_callTy call_int1 (by rfl) bi.int bt_int (pa_cons (pe_op op_mul (pe_op op_mod (pe_callTy call_int1 (by rfl) bi.int bt_int (pa_cons (pe_op op_mul (pv 5) (pv 5)) pa_nil)) pe_int) pe_int) pa_nil)) pe_int))
  (pss_one (ps_ret (pe_op op_mod (pe_callTy call_int1 (by rfl) bi.int bt_int (pa_cons (pe_op op_fdiv (pv 6) pe_int) pa_nil)) (pv 1)))))))), ?_⟩
    -- between the statements: the list holds some four
    refine ⟨fun σ H' => ∃ (p' q' r' : Int) (x5 x6 x7 x8 x9 : Option V), σ = [some (.ref b), some (.int many), x5, x6, x7, x8, x9] ∧
      (0 ≤ p' ∧ 0 ≤ q' ∧ q' < 2147483647 ∧ 0 ≤ r') ∧ H' = upd H b (.lst (bagL p' q' r' l)), ?_, ?_⟩
    · -- if _law_bag_here[0] == 0
      refine ⟨_, rfl, b, bagL p q r l, 0, .int p, rfl, rfl, SqL.of hb, rfl, rfl, _, rfl, ?_⟩
      refine if_d (fun _ => ?_) (fun _ => ⟨p, q, r, none, none, none, none, none, rfl, z, (upd_self hb).symm⟩)
      refine ⟨fun σ H' => ∃ c : Int, σ = [some (.ref b), some (.int many), some (.int c), none, none, none, none] ∧ 0 ≤ c ∧ H' = H, ?_, ?_⟩
      · refine ⟨_, rfl, b, bagL p q r l, 2, .int r, rfl, rfl, SqL.of hb, rfl, _, rfl, b, bagL p q r l, 3, .ref l, rfl, rfl, SqL.of hb, rfl,
          l, cs.map V.int, rfl, .inl (SqL.of hl), r, (cs.map V.int).length, rfl, rfl, _, rfl, ?_⟩
        refine if_d (fun hlt => ?_) (fun _ => ⟨0, rfl, by omega, rfl⟩)
        rw [List.length_map] at hlt
        obtain ⟨v, hv, hm⟩ := get_of (xs := cs) (i := r) z.2.2.2 hlt
        refine ⟨_, rfl, b, bagL p q r l, 3, .ref l, rfl, rfl, SqL.of hb, rfl, _, rfl, b, bagL p q r l, 2, .int r, rfl, rfl, SqL.of hb, rfl,
          l, cs.map V.int, r, .int v, rfl, rfl, SqL.of hl, atI_of z.2.2.2 (by rw [List.getElem?_map, hv]; rfl), v, rfl, hc v hm, rfl⟩
      · rintro σ H' ⟨c, rfl, hc0, eH⟩
        have eH := eH.symm; subst eH
        -- _law_bag_here[2] += 1
        refine ⟨_, rfl, b, bagL p q r l, 2, .int r, rfl, rfl, SqL.of hb, by decide, by decide, rfl, r, 1, rfl, rfl, b, bagL p q r l, 2, 2, rfl, rfl, hb, rfl, ?_⟩
        refine ⟨fun σ H' => ∃ p' : Int, σ = [some (.ref b), some (.int many), some (.int c), none, none, none, none] ∧ 0 ≤ p' ∧
          H' = upd H b (.lst (bagL p' q (r + 1) l)), ?_, ?_⟩
        · refine ⟨_, rfl, 10, 18, rfl, rfl, ⟨by decide, by decide, by decide⟩, c, _, rfl, rfl, _, rfl, ?_⟩
          refine if_d (fun _ => ?_) (fun _ => ⟨p, rfl, z.1, rfl⟩)
          refine ⟨_, rfl, _, rfl, b, bagL p q (r + 1) l, 0, 0, rfl, rfl, upd_same, rfl, c, rfl, hc0, ?_⟩
          rw [upd_upd]; rfl
        · rintro σ H' ⟨p', rfl, hp', rfl⟩
          refine ⟨_, rfl, b, bagL p' q (r + 1) l, 1, .int q, rfl, rfl, SqL.of upd_same, rfl, q, 48271, rfl, rfl, .inr ⟨by decide, by decide⟩, ?_⟩
          refine ⟨_, rfl, .inl ⟨c, rfl, c, 2147483647, rfl, rfl, (by show (0 : Int) < 2147483647; decide), q * 48271, c % 2147483647, rfl, rfl, ?_⟩⟩
          refine ⟨_, rfl, b, bagL p' q (r + 1) l, 2, .int (r + 1), rfl, rfl, SqL.of upd_same, rfl, 7919, r + 1, rfl, rfl, .inl ⟨by decide, by decide⟩, _, _, rfl, rfl, ?_⟩
          refine ⟨_, rfl, .inl ⟨_, rfl, _, 2147483647, rfl, rfl, (by show (0 : Int) < 2147483647; decide), ?_⟩⟩
          refine ⟨_, rfl, b, bagL p' q (r + 1) l, 1, 1, rfl, rfl, upd_same, rfl, ?_⟩
          refine ⟨p', (q * 48271 + c % 2147483647 + 7919 * (r + 1)) % 2147483647, r + 1, _, _, _, _, _, rfl, ⟨hp', Int.emod_nonneg _ (by decide), Int.emod_lt_of_pos _ (by decide), by omega⟩, ?_⟩
          rw [upd_upd]; rfl
    · rintro σ H' ⟨p', q', r', x5, x6, x7, x8, x9, rfl, z', eH⟩
      subst eH
      refine ⟨_, rfl, b, bagL p' q' r' l, 0, .int p', rfl, rfl, SqL.of upd_same, rfl, p', 0, rfl, rfl, _, rfl, ?_⟩
      refine if_d (fun hp => ?_) (fun _ => ?_)
      · -- a number is left of a great one
        refine ⟨_, rfl, b, bagL p' q' r' l, 0, .int p', rfl, rfl, SqL.of upd_same, rfl, .inl ⟨p', rfl, _, rfl, p', many, rfl, rfl, m0, ?_⟩⟩
        refine ⟨_, rfl, b, bagL p' q' r' l, 0, .int p', rfl, rfl, SqL.of upd_same, rfl, _, rfl, p', many, rfl, rfl, ⟨m0, m1⟩, ?_⟩
        refine ⟨_, rfl, b, bagL p' q' r' l, 0, 0, rfl, rfl, upd_same, rfl, ?_⟩
        refine ⟨_, rfl, ?_⟩
        rw [upd_upd]
        exact k (p' % many) (p' / many) q' r' (Int.emod_nonneg _ (by omega)) (Int.emod_lt_of_pos _ m0) ⟨Int.ediv_nonneg z'.1 (by omega), z'.2⟩
      · refine ⟨_, rfl, b, bagL p' q' r' l, 1, .int q', rfl, rfl, SqL.of upd_same, rfl, q', 1, rfl, rfl, _, 39373, rfl, rfl, .inr ⟨by decide, by decide⟩, ?_⟩
        refine .inl ⟨_, rfl, _, 1000000007, rfl, rfl, (by show (0 : Int) < 1000000007; decide), ?_⟩
        have g1 : 0 ≤ (q' + 1) * 39373 % 1000000007 := Int.emod_nonneg _ (by decide)
        have g2 : (q' + 1) * 39373 % 1000000007 < 1000000007 := Int.emod_lt_of_pos _ (by decide)
        refine ⟨_, rfl, _, rfl, _, _, rfl, rfl, .inl ⟨by omega, by omega⟩, ?_⟩
        refine .inl ⟨_, rfl, _, 998244353, rfl, rfl, (by show (0 : Int) < 998244353; decide), _, 30011, rfl, rfl, .inr ⟨by decide, by decide⟩, ?_⟩
        refine .inl ⟨_, rfl, _, 998244353, rfl, rfl, (by show (0 : Int) < 998244353; decide), ?_⟩
        refine ⟨_, rfl, _, 7, rfl, rfl, ⟨by decide, by decide⟩, ?_⟩
        refine .inl ⟨_, rfl, _, rfl, _, many, rfl, rfl, m0, ?_⟩
        exact k _ p' q' r' (Int.emod_nonneg _ (by omega)) (Int.emod_lt_of_pos _ m0) z'
end
end K17

set_option Elab.async false
set_option linter.all false
set_option maxRecDepth 100000
set_option maxHeartbeats 2000000
namespace Gx
open PySem PySem.Spec PyProof.Rows L2 Evl
/-- a tuple of which the very object is known: it has no dict of its own -/
def ExT (H : Hp) (a : Addr) (xs : List V) : Prop := ∃ o : Obj, H a = some (.frz o (.tup xs)) ∧ o.dict = none
theorem ExT.sq {K : PySem.W.Frag} {H : Hp} {a : Addr} {xs : List V} (x : ExT H a xs) : SqT K H a xs := by
  obtain ⟨o, h, _⟩ := x
  exact .inl (.inr ⟨o, h⟩)
theorem ExT.to {H H' : Hp} {a : Addr} {xs : List V} (x : ExT H a xs) (e : Ex H H') : ExT H' a xs := by
  obtain ⟨o, h, d⟩ := x
  exact ⟨o, e _ _ h, d⟩
section
variable {X : Cx}
/-- tuple(xs) of a list, the new object known -/
def rTupX (K : PySem.W.Frag) : List V → Hp → VK → Prop := fun xs H Q => ∃ (p : Addr) (ys : List V), xs = [.ref p] ∧ SqL K H p ys ∧
  ∀ l H', H l = none → Ex H H' → ExT H' l ys → Q (.ref l) H'
theorem call_tupX : CallR X (.type "tuple") (rTupX X.K) := by
  intro pins s σ H xs us Q I rv h
  obtain ⟨p, ys, rfl, hq, q⟩ := h
  obtain ⟨u, rfl, ru⟩ := vals1 rv
  obtain rfl : u = Value.ref p := ru
  obtain ⟨its, r', pl, hz⟩ := I.list hq
  have hlen := r'.length
  refine call_tuple_list pl.isList (fun h' kp => ?_) (by simp only [List.size_toArray] <;> omega)
  have I1 : Inv X pins σ H { s with heap := h' } := I.kept (t' := s.toks) kp
  have hn : H h'.objs.size = none := I1.hok.fresh (Nat.le_refl _)
  have I2 := I1.laid (t' := s.toks) (a := h'.objs.size) (o := .frz { cls := .type "tuple", data := .seq its.toArray } (.tup ys))
    (h' := h'.push { cls := .type "tuple", data := .seq its.toArray }) (fun b o e => Heap.get?_push_of_some _ e) (Nat.le_refl _)
    ⟨Heap.get?_push_size _ rfl, hz, its, r', IsTup.new _ _⟩
  exact ⟨.ref h'.objs.size, _, I2, rfl, q _ _ hn (Ex.new hn) ⟨_, upd_same, rfl⟩⟩
/-- dict(t) of a tuple of pairs whose keys are ints or texts -/
def rDictT (K : PySem.W.Frag) : List V → Hp → VK → Prop := fun xs H Q => ∃ (a : Addr) (ps : List Addr) (kvs : List (Key × V)), xs = [.ref a] ∧
  ExT H a (ps.map V.ref) ∧ Paired (fun p kv => SqT K H p [kV kv.1, kv.2]) ps kvs ∧ ∀ p, H p = none → Q (.ref p) (upd H p (.dK (mergeK [] kvs)))
theorem call_dictT (hcalm : X.calm = true) : CallR X (.type "dict") (rDictT X.K) := by
  intro pins s σ H xs us Q I rv h
  obtain ⟨a, ps, kvs, rfl, ⟨o, ho, hd⟩, hp, q⟩ := h
  obtain ⟨u, rfl, ru⟩ := vals1 rv
  obtain rfl : u = Value.ref a := ru
  obtain ⟨he, hz, its, r', ⟨o', e', hc, n, hdat⟩⟩ := I.hok a _ ho
  rw [he] at e'
  cases e'
  have ei := refs_at r'
  subst ei
  rw [List.length_map] at hz
  obtain ⟨prs, rel, hl, hpr⟩ := pairs_of I hp
  -- the keys as they stand in the heap
  have key : ∀ j : Nat, j < prs.length → ∃ kv : Value × Value, ∃ b, ps[j]? = some b ∧ IsTup s.heap b #[kv.1, kv.2] ∧
      ∃ q, prs[j]? = some q ∧ q.2 = kv.2 ∧ keyIs q.1 kv.1 = true := by
    intro j hj
    obtain ⟨b, u, e1, e2, e3⟩ := hpr j _ (List.getElem?_eq_getElem hj)
    exact ⟨(u, prs[j].2), b, e1, e2, _, List.getElem?_eq_getElem hj, rfl, e3⟩
  let ws : List (Value × Value) := List.ofFn fun j : Fin prs.length => (key j.1 j.2).choose
  have hws : ws.length = prs.length := List.length_ofFn
  have wsAt : ∀ j (hj : j < prs.length), ws[j]? = some (key j hj).choose := by
    intro j hj
    rw [List.getElem?_eq_getElem (by rw [hws]; exact hj)]
    exact congrArg some (List.getElem_ofFn (by rw [hws]; exact hj))
  refine PySem.call_dict_pairs (kvs := prs) (knd := mixKind X.prog X.w)
    (PySem.PairArg.tuple a (ps.map Value.ref).toArray (fun j => ps.getD j 0) ws) (I.ok.hd hcalm) ⟨⟨o, n, he, hc, hd, hdat⟩, ?_, ?_⟩ ⟨hws.symm, ?_⟩ ?_ ?_
  · rw [hws, hl]; simp
  · intro j k v hj
    have hjl : j < prs.length := by rw [← hws]; exact (List.getElem?_eq_some_iff.mp hj).1
    rw [wsAt j hjl] at hj
    obtain ⟨b, e1, e2, _⟩ := (key j hjl).choose_spec
    have e0 := Option.some.inj hj
    rw [e0] at e2
    refine ⟨?_, .inl ?_⟩
    · simp [e1]
    · have e3 : ps.getD j 0 = b := by simp [e1]
      show s.heap.IsTuple (ps.getD j 0) #[k, v]
      rw [e3]
      exact e2
  · intro i k v hr
    have hr' : ws[i]? = some (k, v) := hr
    have hil : i < prs.length := by rw [← hws]; exact (List.getElem?_eq_some_iff.mp hr').1
    rw [wsAt i hil] at hr'
    have e0 := Option.some.inj hr'
    obtain ⟨b, e1, e2, z, e3, e4, e5⟩ := (key i hil).choose_spec
    rw [e0] at e4 e5
    obtain ⟨z1, z2⟩ := z
    simp only at e4 e5
    subst e4
    exact ⟨z1, e3, e5⟩
  · rw [hws, hl]; exact hz
  · intro h' tk hd' k'
    have hm : (s.heap.objs.size == sysModules) = false := beq_eq_false_iff_ne.mpr (Nat.ne_of_gt I.big)
    have hlen : (mergeK [] kvs).length ≤ sizeLine := by
      refine Nat.le_trans (length_mergeK kvs []) ?_
      rw [List.length_nil, Nat.zero_add, rel.length, hl]
      exact hz
    have kk : ∀ b o, s.heap.get? b = some o → h'.get? b = some o := fun b o e => k' b o (by simp) e
    have I2 := I.laid (t' := tk) (a := s.heap.objs.size) (o := .dK (mergeK [] kvs)) kk (Nat.le_refl _) ⟨hlen, hm, merged [] prs, KV.merge rel .nil, hd'⟩
    exact ⟨.ref s.heap.objs.size, _, I2, rfl, q _ (I.hok.fresh (Nat.le_refl _))⟩
end
/-- a dict of pairs with different keys, looked up -/
theorem valV_merge : ∀ (kvs acc : List (Key × V)) (k : Key), (∀ kv ∈ kvs, valV acc kv.1 = none) → (kvs.map (·.1)).Nodup →
    valV (mergeK acc kvs) k = match valV kvs k with | some v => some v | none => valV acc k
  | [], acc, k, _, _ => rfl
  | kv :: r, acc, k, h, nd => by
    rw [List.map_cons, List.nodup_cons] at nd
    have e : mergeK acc (kv :: r) = mergeK (putK acc kv.1 kv.2) r := rfl
    rw [e, valV_merge r (putK acc kv.1 kv.2) k (fun z hz => ?_) nd.2]
    · rw [valV_put]
      by_cases hk : kv.1 = k
      · rw [valV_pos hk, if_pos hk.symm]
        have : valV r k = none := by
          cases q : valV r k with
          | none => rfl
          | some v => exact absurd (by rw [hk]; exact valV_in q) nd.1
        rw [this]
      · rw [valV_neg hk, if_neg (fun e => hk e.symm)]
    · rw [valV_put, if_neg (fun e => nd.1 (by rw [← e]; exact List.mem_map_of_mem hz))]
      exact h z (List.mem_cons_of_mem _ hz)
end Gx

set_option Elab.async false
set_option linter.all false
set_option maxRecDepth 100000
set_option maxHeartbeats 2000000
namespace PySem
open AutoSeq1 (wpAny_loadPart')
/-- enumerate(t) of a tuple -/
theorem gx_enum_new (l : Addr) (items : Array Value) (n : Nat) (dct : Option Addr) (sl : Array (Option Value)) :
    Meets (Builtin.«enumerate.__new__» ⟨[.type "enumerate", .ref l], []⟩) (fun _ R s =>
      s.heap.get? l = some { cls := .type "tuple", dict := dct, data := .seq items n, slots := sl } ∧
      R (.ok (.ret (.ref (s.heap.push { cls := .type "tuple_iterator", data := .fields #[.ref l, .int 0 0] }).objs.size)))
        { s with heap := (s.heap.push { cls := .type "tuple_iterator", data := .fields #[.ref l, .int 0 0] }).push { cls := .type "enumerate", data := .fields #[.none, .bool false, .ref s.heap.objs.size, rawInt 0, .none, .none] } }) := by
  refine .of_wp fun prog w A R s h => ?_
  obtain ⟨hp, g, d, tk, os⟩ := s
  obtain ⟨hl, h⟩ := h
  have sb := sub_enumerate
  have tT : Heap.IsTuple (Shared.heap ⟨hp, g, d, tk, os⟩) l items := ⟨_, hl, rfl, n, rfl⟩
  wp_walk using wpAny_loadPart' hl
  refine wpAny_stack_any fun st => wpAny_pure ?_
  split
  · rename_i c _ _ _ _ _
    cases (c == Value.type "enumerate") <;>
      (wp_walk using wpAny_loadPart' hl, wpAny_pyIter_tuple tT; exact ⟨_, rfl, h⟩)
  · wp_walk using wpAny_loadPart' hl, wpAny_pyIter_tuple tT
    exact ⟨_, rfl, h⟩
section
variable {prog : Program} {w : World} {A : Around} {E : Value → Shared → Prop} {s : Shared}
theorem gx_call_enum {l : Addr} {items : Array Value} {Q : Value → Shared → Prop} (hL : s.heap.IsTuple l items)
    (h : ∀ h', IsEnum h' (s.heap.objs.size + 1) s.heap.objs.size 0 .none → h'.IsTupleIter s.heap.objs.size l 0 →
      (∀ b o, s.heap.get? b = some o → h'.get? b = some o) → Q (.ref (s.heap.objs.size + 1)) { s with heap := h' }) :
    wpAny (model prog w) A (call (.type "enumerate") [.ref l]) Q E s := by
  obtain ⟨⟨c, dct, dt, sl⟩, hl, hc, n, hd⟩ := hL
  obtain rfl : c = .type "tuple" := hc
  obtain rfl : dt = .seq items n := hd
  refine callType_new F.called_enumerate (by decide) (F.typeCall_enumerate_1 _) (F.newCall_enumerate_1 _)
    (fun obj => F.args_object_init_2 obj _) F.entry_enumerate_new (gx_enum_new l items n dct sl) ⟨hl, ?_⟩
  have sz : (s.heap.push { cls := .type "tuple_iterator", data := .fields #[.ref l, .int 0 0] }).objs.size = s.heap.objs.size + 1 := Heap.size_push ..
  have at1 := Heap.get?_push_size (s.heap.push { cls := .type "tuple_iterator", data := .fields #[.ref l, .int 0 0] })
    (o := { cls := .type "enumerate", data := .fields #[.none, .bool false, .ref s.heap.objs.size, rawInt 0, .none, .none] }) rfl
  show _ ∧ _
  rw [sz] at at1 ⊢
  refine ⟨⟨_, at1, rfl⟩, h _ at1 ⟨_, Heap.get?_push_of_some _ (Heap.get?_push_size _ rfl), rfl, rfl⟩ ?_⟩
  exact fun b o x => Heap.get?_push_of_some _ (Heap.get?_push_of_some _ x)
end
end PySem
namespace Gx
open PySem PySem.Spec PyProof.Rows L2 Evl
/-- the tuple at a, each item in a new pair with its number -/
def Iet (K : PySem.W.Frag) (a : Addr) : It where
  go := fun i H => ∃ (xs : List V) (x : V), SqT K H a xs ∧ xs[i]? = some x
  yld := fun i H v H' => ∃ T x, v = .ref T ∧ H T = none ∧ H' = upd H T (.tup [.int (i : Nat), x]) ∧ ∀ xs, SqT K H a xs → xs[i]? = some x
  stop := fun i H => ∃ xs : List V, SqT K H a xs ∧ xs.length ≤ i
theorem turn_enumT {P : Program} {w : World} {K : PySem.W.Frag} {elts : List Expr} {kk : Nat} {tpos : Pos} (a e it : Addr) (nt : a ≠ it) :
    Turn P w K (.Tuple elts kk tpos) (Iet K a) [e, it] e
      (fun i h => (∃ old, IsEnum h e it ((i : Nat) : Int) old) ∧ h.IsTupleIter it a i ∧ e ≠ it ∧ e ≠ a) := by
  refine ⟨by simp, fun i h st b hb => ?_, fun i h h' st k => ?_, ?_, ?_, fun A i s Q E st h => ?_⟩
  · obtain ⟨⟨old, he⟩, ⟨o, ho, hc, hd⟩, _⟩ := st
    rcases List.mem_cons.mp hb with z | z
    · subst z; exact ⟨_, he, fun v q => nomatch q⟩
    · rw [List.mem_singleton] at z; subst z; exact ⟨o, ho, fun v q => by rw [hd] at q; cases q⟩
  · obtain ⟨⟨old, he⟩, hi, hne⟩ := st
    exact ⟨⟨old, k e (by simp) _ he⟩, hi.at fun o q => k it (by simp) o q, hne⟩
  · intro X hP hw hK hc i pins s σ H E I hf st hg
    subst hP hw hK
    obtain ⟨⟨old, he⟩, hit, hne, hea⟩ := st
    obtain ⟨xs, x, hq, hx⟩ := hg
    obtain ⟨its, rv, tp, hz⟩ := I.tuple hq
    obtain ⟨u, hu, ru⟩ := rv.get hx
    have el : e < s.heap.objs.size := Heap.lt_size he
    have il : it < s.heap.objs.size := by obtain ⟨_, q, _⟩ := hit; exact Heap.lt_size q
    have D := Draws.tuple (prog := X.prog) (w := X.w) (A := X.A.in1) (I.ok.hd hc) it a nt its.toArray
    refine wpAny_pyNext_enum_itemD D he ⟨hit, tp⟩ (by have := (List.getElem?_eq_some_iff.mp hu).1; simpa using this) hne (by simp [hne, hea]) ?_
    intro y h' tk hy ho st' hT hsz hk
    have yu : y = u := by
      have hy' : its.toArray[i]? = some y := hy
      rw [List.getElem?_toArray, hu] at hy'
      exact (Option.some.inj hy').symm
    subst yu
    refine ⟨_, rfl, wpAny_letOwnedTupleGo_enum (s := { s with heap := h', toks := tk + 1 }) ho fun h'' he' sb => ?_⟩
    have hT2 := (sb.2 _ (Nat.ne_of_gt el)).trans hT
    have ob : ObjOk X.prog X.w (upd H s.heap.objs.size (.tup [.int (i : Nat), x])) h'' s.heap.objs.size (.tup [.int (i : Nat), x]) :=
      ⟨by show 2 ≤ sizeLine; decide, [.int i tk, y], .cons ⟨_, rfl⟩ (.cons ru .nil), ⟨_, hT2, rfl, _, rfl⟩⟩
    have I1 := I.turnedNew (ch := [e, it]) (t' := tk + 1) (fun b ob hb q => (sb.2 b (fun z => hb (by simp [z]))).trans
      (hk b ob (fun z => hb (by simp [z])) (fun z => hb (by simp [z])) q)) hf (Nat.le_refl _) ob
    refine ⟨.ref s.heap.objs.size, _, I1, rfl, ⟨_, x, rfl, I.hok.fresh (Nat.le_refl _), rfl, fun ys hy => by rw [I.tuple_inj hy hq]; exact hx⟩,
      ⟨⟨y, ?_⟩, st'.1.at fun o q => (sb.2 it (Ne.symm hne)).trans q, hne, hea⟩, fun b hb => ?_⟩
    · have e1 : ((i + 1 : Nat) : Int) = (i : Int) + 1 := by omega
      rw [e1]; exact he'
    · have bl : b < s.heap.objs.size := by
        rcases List.mem_cons.mp hb with z | z
        · subst z; exact el
        · rw [List.mem_singleton] at z; subst z; exact il
      rw [upd_ne (Nat.ne_of_lt bl)]
      exact (hf b hb).1
  · intro X hP hw hK hc i pins s σ H E I hf st hg
    subst hP hw hK
    obtain ⟨⟨old, he⟩, hit, hne, hea⟩ := st
    obtain ⟨xs, hq, hx⟩ := hg
    obtain ⟨its, rv, tp, hz⟩ := I.tuple hq
    obtain ⟨f0, f1, f2, f3, f4, f5⟩ := hf it (by simp)
    have ll := rv.length
    unfold pyNext
    have hT : s.TypeIs (.ref e) "enumerate" := ⟨_, he, rfl⟩
    refine wpAny_bind (wpAny_attempt (wpAny_callSpecial?_slot (name := Str.ofString "__next__") hT F.slot_enumerate_next
      (wpAny_call_entry F.slot_enumerate_next hT F.entry_enumerate_next ?_ (F.args_enumerate_next_1 _))))
    show wpAny _ _ (field (.ref e) 2 >>= _) _ _ _
    refine wpAny_bind (wpAny_field he rfl (x := .ref it) rfl ?_)
    refine wpAny_bind (wpAny_nextOf_tuple_end (I.ok.hd hc) hit tp (by simp; omega) fun h' x he' hx' => ?_)
    obtain ⟨o, ho, hcc⟩ := hx'
    refine wpAny_bind (wpAny_isInstance (T := "StopIteration") (b := true) ⟨o, ho, hcc⟩ isSubtype_stop ?_)
    exact wpAny_pure ⟨rfl, I.turned (t' := s.toks) (fun b o hb q => he' b o hb q) f0 f1 f3 f4 f5⟩
  · obtain ⟨⟨_, he⟩, _⟩ := st
    exact wpAny_pyIter_enum he h
def iEnumT (K : PySem.W.Frag) (ta : TA) : TI := fun σ H R => ta σ H fun vs H1 => ∃ a xs, vs = [.ref a] ∧ SqT K H1 a xs ∧ R (Iet K a) H1
theorem pi_enumT {X : Cx} {e : Expr} {ta : TA} {p pos tpos : Pos} {elts : List Expr} {kk : Nat} (hg : Gl X "enumerate")
    (hm : X.mg "enumerate" = none) (ha : PA X [e] ta) (hs : starEach [e] X.env = [(false, eval e X.env)] := by rfl) :
    PI X (.Tuple elts kk tpos) (.Call (.Name "enumerate" p) [e] [] pos) (iEnumT X.K ta) := by
  constructor
  intro pins s σ H R I h
  refine Call_ (ld_blt I hg hm boot_enumerate (PyProof.Rows.callWith_type1 (thn (ha.run pos pins s σ H _ I h) ?_) hs rfl))
  rintro us s1 ⟨vs, H1, I1, rv, a, xs, rfl, hq, q⟩
  obtain ⟨u, rfl, ru⟩ := vals1 rv
  obtain rfl : u = Value.ref a := ru
  obtain ⟨its, rv', tp, hz⟩ := I1.tuple hq
  have al : a < s1.heap.objs.size := tp.lt
  refine gx_call_enum tp fun h' he hit hk => wpAny_pyIter_enum he ?_
  have I2 : Inv X pins σ H1 { s1 with heap := h' } := I1.kept (t' := s1.toks) hk
  refine ⟨s1.heap.objs.size + 1, [s1.heap.objs.size + 1, s1.heap.objs.size], _, _, H1, rfl, I2,
    turn_enumT a (s1.heap.objs.size + 1) s1.heap.objs.size (Nat.ne_of_lt al),
    ⟨⟨.none, he⟩, hit, Nat.succ_ne_self _, Nat.ne_of_gt (Nat.lt_succ_of_lt al)⟩, fun b hb => ?_, q⟩
  have hle : s1.heap.objs.size ≤ b := by
    rcases List.mem_cons.mp hb with z | z
    · subst z; exact Nat.le_succ _
    · rw [List.mem_singleton] at z; subst z; exact Nat.le_refl _
  exact I1.fpOk hle (I1.hok.fresh hle)
theorem for_enumT {K : PySem.W.Frag} {a : Addr} {xs : List V} {g : TG} {tb : TS} {D : Ends} {σ : L2.St} {H : Hp} (Pv : Nat → L2.St → Hp → Prop)
    (h0 : Pv 0 σ H) (hl : ∀ i σ H, i ≤ xs.length → Pv i σ H → SqT K H a xs)
    (hs : ∀ i x T σ H, xs[i]? = some x → Pv i σ H → H T = none →
      g (.ref T) σ (upd H T (.tup [.int (i : Nat), x])) fun σ2 H2 => tb { D with nx := Pv (i + 1), ct := Pv (i + 1), bk := D.nx } σ2 H2)
    (hd : ∀ σ H, Pv xs.length σ H → D.nx σ H) :
    ∃ W : Nat → Nat → L2.St → Hp → Prop, (∃ m, W 0 m σ H) ∧ ∀ i m σ H, W i m σ H →
      ((Iet K a).stop i H ∧ D.nx σ H) ∨ ((Iet K a).go i H ∧ ∃ N : L2.St → Hp → Prop, (∀ σ' H', N σ' H' → ∃ m', m' < m ∧ W (i + 1) m' σ' H') ∧
        ∀ x H', (Iet K a).yld i H x H' → g x σ H' fun σ2 H2 => tb { D with nx := N, ct := N, bk := D.nx } σ2 H2) := by
  refine ⟨fun i m σ H => m = xs.length - i ∧ i ≤ xs.length ∧ Pv i σ H, ⟨xs.length, by simp, Nat.zero_le _, h0⟩, ?_⟩
  rintro i m σ H ⟨rfl, hi, p⟩
  have q := hl i σ H hi p
  by_cases hlt : i < xs.length
  · refine .inr ⟨⟨xs, xs[i], q, List.getElem?_eq_getElem hlt⟩, Pv (i + 1), fun σ' H' p' => ⟨_, by omega, rfl, hlt, p'⟩, ?_⟩
    rintro v H' ⟨T, x, rfl, nT, rfl, hx⟩
    exact hs i x T σ H (hx xs q) p nT
  · have e : i = xs.length := by omega
    subst e
    exact .inl ⟨⟨xs, q, Nat.le_refl _⟩, hd σ H p⟩
end Gx

set_option Elab.async false
set_option linter.all false
set_option maxRecDepth 100000
set_option maxHeartbeats 2000000
namespace Gx
open PySem PySem.Spec PyProof.Rows L2 Evl
/-! Steps: what they are, what they lead a number to, how they lie in the heap. -/
inductive Stp where
  | plus (k : Int) | times (k : Int) | into (k : Int) | over (k : Int) | found (ps : List (Int × Int))
abbrev Near (k : Int) : Prop := -1000000000000 ≤ k ∧ k ≤ 1000000000000
def Stp.ok : Stp → Prop
  | .plus k => Near k
  | .times k => Near k ∧ k ≠ 0
  | .into k => 0 < k ∧ k ≤ 1000000000000
  | .over k => Near k
  | .found ps => (ps.map (·.1)).Nodup ∧ (∀ p ∈ ps, Near p.1 ∧ Near p.2) ∧ ps.length ≤ 8
def look (ps : List (Int × Int)) (n : Int) : Option Int := (ps.find? fun p => decide (p.1 = n)).map (·.2)
def lead : Stp → Int → Option Int
  | .plus k, n => some (n + k)
  | .times k, n => some (n * k)
  | .into k, n => some (n.fdiv k)
  | .over k, n => if n = 0 then none else some (k.fdiv n)
  | .found ps, n => look ps n
def leadAll : List Stp → Int → Option Int
  | [], n => some n
  | s :: r, n => match lead s n with
    | some m => leadAll r m
    | none => none
/-- the number at which steps err -/
def erredAt : List Stp → Int → Option Int
  | [], _ => none
  | s :: r, n => match lead s n with
    | some m => erredAt r m
    | none => some n
theorem leadAll_none {ss : List Stp} : ∀ {n : Int}, leadAll ss n = none → ∃ m, erredAt ss n = some m := by
  induction ss with
  | nil => intro n h; cases h
  | cons s r ih =>
    intro n h
    unfold leadAll at h
    unfold erredAt
    cases e : lead s n with
    | none => exact ⟨n, rfl⟩
    | some m => rw [e] at h; exact ih h
theorem leadAll_some {ss : List Stp} : ∀ {n m : Int}, leadAll ss n = some m → erredAt ss n = none := by
  induction ss with
  | nil => intro n m h; rfl
  | cons s r ih =>
    intro n m h
    unfold leadAll at h
    unfold erredAt
    cases e : lead s n with
    | none => rw [e] at h; cases h
    | some m => rw [e] at h; exact ih h
/-! ### how great the numbers grow -/
theorem fdiv_abs {a b : Int} (hb : b ≠ 0) : (a.fdiv b).natAbs ≤ a.natAbs := by
  have h1 := Int.mul_fdiv_add_fmod a b
  by_cases pb : 0 < b
  · rw [Int.fdiv_eq_ediv_of_nonneg a (by omega)]
    by_cases pa : 0 ≤ a
    · have := Int.ediv_le_self b pa
      have := Int.ediv_nonneg pa (by omega : 0 ≤ b)
      omega
    · have q1 : a ≤ a / b := by
        have := Int.mul_ediv_self_le (x := a) (k := b) (by omega)
        have q2 := Int.lt_mul_ediv_self_add (x := a) pb
        by_cases z : a / b ≤ a - 1
        · have : b * (a / b) ≤ b * (a - 1) := Int.mul_le_mul_of_nonneg_left z (by omega)
          have e : b * (a - 1) = b * a - b := by rw [Int.mul_sub, Int.mul_one]
          have : b * a ≤ 1 * a := Int.mul_le_mul_of_nonpos_right (by omega) (by omega)
          omega
        · omega
      have q3 : a / b < 0 := Int.ediv_neg_of_neg_of_pos (by omega) pb
      omega
  · have e : a.fdiv b = (-a).fdiv (-b) := (Int.neg_fdiv_neg a b).symm
    rw [e, Int.fdiv_eq_ediv_of_nonneg (-a) (by omega)]
    by_cases pa : 0 ≤ -a
    · have := Int.ediv_le_self (-b) pa
      have := Int.ediv_nonneg pa (by omega : 0 ≤ -b)
      omega
    · have pb' : 0 < -b := by omega
      have q1 : -a ≤ -a / -b := by
        have q2 := Int.lt_mul_ediv_self_add (x := -a) pb'
        by_cases z : -a / -b ≤ -a - 1
        · have : -b * (-a / -b) ≤ -b * (-a - 1) := Int.mul_le_mul_of_nonneg_left z (by omega)
          have e : -b * (-a - 1) = -b * -a - -b := by rw [Int.mul_sub, Int.mul_one]
          have : -b * -a ≤ 1 * -a := Int.mul_le_mul_of_nonpos_right (by omega) (by omega)
          omega
        · omega
      have q3 : -a / -b < 0 := Int.ediv_neg_of_neg_of_pos (by omega) pb'
      omega
theorem near_abs {k : Int} (h : Near k) : k.natAbs < 1099511627776 := by
  obtain ⟨h1, h2⟩ := h
  omega
theorem look_mem {ps : List (Int × Int)} {n m : Int} (h : look ps n = some m) : (n, m) ∈ ps := by
  unfold look at h
  obtain ⟨p, h1, h2⟩ := Option.map_eq_some_iff.mp h
  have := List.mem_of_find?_eq_some h1
  have e := List.find?_some h1
  simp at e
  obtain ⟨a, b⟩ := p
  simp only at e h2
  subst e h2
  exact this
theorem mul_big (a c B : Nat) (h1 : a < B) (h2 : c < 1099511627776) : a * c < B * 2199023255552 :=
  Nat.lt_of_lt_of_le (Nat.mul_lt_mul'' h1 h2) (Nat.mul_le_mul_left B (by decide))
theorem lead_big {s : Stp} {n m : Int} {b : Nat} (hs : s.ok) (hn : n.natAbs < 2 ^ b) (h : lead s n = some m) : m.natAbs < 2 ^ (b + 41) := by
  have p1 : (2 : Nat) ^ (b + 41) = 2 ^ b * 2 ^ 41 := Nat.pow_add 2 b 41
  have p2 : (2 : Nat) ^ 41 = 2199023255552 := by decide
  have p4 : 1 ≤ (2 : Nat) ^ b := Nat.one_le_two_pow
  generalize hB : (2 : Nat) ^ b = B at *
  rw [p1, p2]
  cases s with
  | plus k =>
    have q := near_abs hs
    have h : some (n + k) = some m := h
    injection h with h
    omega
  | times k =>
    have q := near_abs hs.1
    have h : some (n * k) = some m := h
    injection h with h
    rw [← h, Int.natAbs_mul]
    exact mul_big _ _ _ hn q
  | into k =>
    have h : some (n.fdiv k) = some m := h
    injection h with h
    have q : k ≠ 0 := by have := hs.1; omega
    have := fdiv_abs (a := n) q
    omega
  | over k =>
    have h : (if n = 0 then none else some (k.fdiv n)) = some m := h
    by_cases h0 : n = 0
    · rw [if_pos h0] at h; cases h
    · rw [if_neg h0] at h
      injection h with h
      have := fdiv_abs (a := k) h0
      have := near_abs hs
      omega
  | found ps =>
    have := look_mem h
    have := near_abs (hs.2.1 _ this).2
    simp only at this
    omega
/-! ### what never changes stands -/
def imm : HO → Bool
  | .tup _ => true
  | .frz _ _ => true
  | _ => false
def ExI (H H' : Hp) : Prop := ∀ a o, H a = some o → imm o = true → H' a = some o
theorem ExI.of {H H' : Hp} (e : Ex H H') : ExI H H' := fun a o h _ => e a o h
theorem ExI.trans {H H1 H2 : Hp} (a : ExI H H1) (b : ExI H1 H2) : ExI H H2 := fun c o h i => b c o (a c o h i) i
theorem ExI.put {H : Hp} {l : Addr} {u u' : HO} (h : H l = some u) (n : imm u = false) : ExI H (upd H l u') := fun a o q i => by
  rw [upd_ne (fun e => by subst e; rw [h] at q; cases q; rw [n] at i; cases i)]
  exact q
theorem ExI.sq {K : PySem.W.Frag} {H H' : Hp} {a : Addr} {xs : List V} (e : ExI H H') (h : SqT K H a xs) : SqT K H' a xs := by
  rcases h with (h | ⟨o, h⟩) | h
  · exact .inl (.inl (e _ _ h rfl))
  · exact .inl (.inr ⟨o, e _ _ h rfl⟩)
  · exact .inr h
/-! ### how they lie -/
def PairAt (K : PySem.W.Frag) (H : Hp) (p : Addr) (kv : Int × Int) : Prop := SqT K H p [.int kv.1, .int kv.2]
def StpAt (K : PySem.W.Frag) (H : Hp) (v : V) : Stp → Prop
  | .plus k => ∃ a, v = .ref a ∧ SqT K H a [.str "plus", .int k]
  | .times k => ∃ a, v = .ref a ∧ SqT K H a [.str "times", .int k]
  | .into k => ∃ a, v = .ref a ∧ SqT K H a [.str "into", .int k]
  | .over k => ∃ a, v = .ref a ∧ SqT K H a [.str "over", .int k]
  | .found ps => ∃ a c as, v = .ref a ∧ SqT K H a [.str "found", .ref c] ∧ ExT H c (as.map V.ref) ∧ Paired (PairAt K H) as ps
def pairD (kv : Int × Int) : PyData := .tuple [.int kv.1, .int kv.2]
def Stp.data : Stp → PyData
  | .plus k => .tuple [.str "plus", .int k]
  | .times k => .tuple [.str "times", .int k]
  | .into k => .tuple [.str "into", .int k]
  | .over k => .tuple [.str "over", .int k]
  | .found ps => .tuple [.str "found", .tuple (ps.map pairD)]
section
variable {K : PySem.W.Frag} {H H' : Hp}
theorem paired_to {as : List Addr} {ps : List (Int × Int)} (e : Ex H H') (h : Paired (PairAt K H) as ps) : Paired (PairAt K H') as ps :=
  L2.Paired.mapP h fun _ _ q => ex_t e q
theorem StpAt.to {v : V} {s : Stp} (h : StpAt K H v s) (e : Ex H H') : StpAt K H' v s := by
  cases s with
  | found ps =>
    obtain ⟨a, c, as, h1, h2, h3, h4⟩ := h
    exact ⟨a, c, as, h1, ex_t e h2, h3.to e, paired_to e h4⟩
  | _ => obtain ⟨a, h1, h2⟩ := h; exact ⟨a, h1, ex_t e h2⟩
theorem pairs_dp : ∀ {as : List Addr} {ps : List (Int × Int)}, Paired (PairAt K H) as ps → DpAll K H (as.map V.ref) (ps.map pairD)
  | _, _, .nil => .nil
  | _, _, .cons h t => .cons (.tup h (.cons (.int _) (.cons (.int _) .nil))) (pairs_dp t)
theorem StpAt.dp {v : V} {s : Stp} (h : StpAt K H v s) : Dp K H v s.data := by
  cases s with
  | found ps =>
    obtain ⟨a, c, as, rfl, h2, h3, h4⟩ := h
    exact .tup h2 (.cons (.str _) (.cons (.tup h3.sq (pairs_dp h4)) .nil))
  | _ => obtain ⟨a, rfl, h2⟩ := h; exact .tup h2 (.cons (.str _) (.cons (.int _) .nil))
theorem StpAt.toI {v : V} {s : Stp} (h : StpAt K H v s) (e : ExI H H') : StpAt K H' v s := by
  cases s with
  | found ps =>
    obtain ⟨a, c, as, h1, h2, ⟨o, h3, h5⟩, h4⟩ := h
    exact ⟨a, c, as, h1, e.sq h2, ⟨o, e _ _ h3 rfl, h5⟩, L2.Paired.mapP h4 fun _ _ q => e.sq q⟩
  | _ => obtain ⟨a, h1, h2⟩ := h; exact ⟨a, h1, e.sq h2⟩
abbrev StpsAt (K : PySem.W.Frag) (H : Hp) (vs : List V) (ss : List Stp) : Prop := Paired (StpAt K H) vs ss
theorem stps_to {vs : List V} {ss : List Stp} (h : StpsAt K H vs ss) (e : Ex H H') : StpsAt K H' vs ss := L2.Paired.mapP h fun _ _ q => q.to e
theorem stps_toI {vs : List V} {ss : List Stp} (h : StpsAt K H vs ss) (e : ExI H H') : StpsAt K H' vs ss := L2.Paired.mapP h fun _ _ q => q.toI e
theorem stps_dp : ∀ {vs : List V} {ss : List Stp}, StpsAt K H vs ss → DpAll K H vs (ss.map Stp.data)
  | _, _, .nil => .nil
  | _, _, .cons h t => .cons h.dp (stps_dp t)
theorem paired_get {α β : Type} {F : α → β → Prop} : ∀ {xs : List α} {ys : List β}, Paired F xs ys → ∀ {i : Nat} {x : α}, xs[i]? = some x → ∃ y, ys[i]? = some y ∧ F x y
  | _, _, .nil, i, x, e => by simp at e
  | _, _, .cons h t, 0, x, e => by simp at e; subst e; exact ⟨_, by simp, h⟩
  | _, _, .cons h t, i + 1, x, e => by
    obtain ⟨y, q1, q2⟩ := paired_get t (i := i) (by simpa using e)
    exact ⟨y, by simpa using q1, q2⟩
theorem paired_app {α β : Type} {F : α → β → Prop} : ∀ {xs xs' : List α} {ys ys' : List β}, Paired F xs ys → Paired F xs' ys' → Paired F (xs ++ xs') (ys ++ ys')
  | _, _, _, _, .nil, q => q
  | _, _, _, _, .cons h t, q => .cons h (paired_app t q)
theorem paired_take {α β : Type} {F : α → β → Prop} : ∀ (n : Nat) {xs : List α} {ys : List β}, Paired F xs ys → Paired F (xs.take n) (ys.take n)
  | 0, _, _, _ => .nil
  | _ + 1, _, _, .nil => .nil
  | n + 1, _, _, .cons h t => .cons h (paired_take n t)
theorem shaped_pairs : ∀ ps : List (Int × Int), PyData.canLayAll0 (ps.map pairD) = true ∧ PyData.depthAll (ps.map pairD) ≤ 1
  | [] => ⟨rfl, by decide⟩
  | p :: r => by
    obtain ⟨h1, h2⟩ := shaped_pairs r
    refine ⟨?_, ?_⟩
    · simp [PyData.canLayAll0, pairD, PyData.canLay0, h1]
    · simp only [List.map_cons, PyData.depthAll, pairD, PyData.depth] at h2 ⊢
      omega
end
end Gx

set_option Elab.async false
set_option linter.all false
set_option maxRecDepth 100000
set_option maxHeartbeats 2000000
namespace Gx
open PySem PySem.Spec PyProof.Rows L2 Evl
/-! What the helpers of the laws promise. -/
def spOne (K : PySem.W.Frag) : Sp := fun vs H Q _ => ∃ (b l : Addr) (xs : List V), vs = [.ref b, .ref l] ∧ Bag H b ∧ SqL K H l xs ∧
  0 < xs.length ∧ xs.length < 100000 ∧ ∀ x ∈ xs, Q x H
def spNumber : Sp := fun vs H Q _ => ∃ b : Addr, vs = [.ref b] ∧ Bag H b ∧ ∀ x : Int, Near x → ∀ H', Ex H H' → Q (.int x) H'
def spStep (K : PySem.W.Frag) : Sp := fun vs H Q _ => ∃ b : Addr, vs = [.ref b] ∧ Bag H b ∧
  ∀ v s H', Ex H H' → Stp.ok s → StpAt K H' v s → Q v H'
def spSteps (K : PySem.W.Frag) : Sp := fun vs H Q _ => ∃ b : Addr, vs = [.ref b, .int 4] ∧ Bag H b ∧
  ∀ a ws ss H', Ex H H' → ss.length ≤ 4 → (∀ s ∈ ss, Stp.ok s) → ExT H' a ws → StpsAt K H' ws ss → Q (.ref a) H'
theorem if_t {c : Bool} {A B : Prop} (hc : c = true) (h : A) : if c = true then A else B := by rw [if_pos hc]; exact h
theorem if_f {c : Bool} {A B : Prop} (hc : c = false) (h : B) : if c = true then A else B := by
  rw [hc, if_neg Bool.false_ne_true]; exact h
theorem cut_take (xs : List V) (n : Nat) : cutV xs none (some (n : Int)) = xs.take n := by
  unfold cutV
  rw [show HT.sIx xs.length 0 none = 0 from rfl, List.drop_zero, Nat.sub_zero]
  have e : HT.sIx xs.length xs.length (some (n : Int)) = min n xs.length := by
    show (if (n : Int) < 0 then ((n : Int) + xs.length).toNat else min (n : Int).toNat xs.length) = min n xs.length
    rw [if_neg (by omega), Int.toNat_natCast]
  rw [e]
  by_cases q : n ≤ xs.length
  · rw [Nat.min_eq_left q]
  · rw [Nat.min_eq_right (by omega), List.take_length, List.take_of_length_le (by omega)]
theorem sz1 : (1 : Nat) ≤ sizeLine := by decide
theorem sz2 : (2 : Nat) ≤ sizeLine := by decide
theorem sz3 : (3 : Nat) ≤ sizeLine := by decide
theorem sz4 : (4 : Nat) ≤ sizeLine := by decide
theorem sz5 : (5 : Nat) ≤ sizeLine := by decide
theorem small {n : Nat} (h : n ≤ 100000) : n < sizeLine := Nat.lt_of_le_of_lt h (by decide)
theorem p10_12 : (10 : Int) ^ (12 : Int).toNat = 1000000000000 := by decide
theorem p10_11 : (10 : Int) ^ (11 : Int).toNat = 100000000000 := by decide
/-- an item of a short written list -/
theorem item2 {a b : V} {i : Int} (h0 : 0 ≤ i) (h1 : i < 2) : atI [a, b] i = some a ∧ i = 0 ∨ atI [a, b] i = some b ∧ i = 1 := by
  rcases (by omega : i = 0 ∨ i = 1) with rfl | rfl
  · exact .inl ⟨rfl, rfl⟩
  · exact .inr ⟨rfl, rfl⟩
theorem item_in {xs : List V} {i : Int} (h0 : 0 ≤ i) (h1 : i < xs.length) : ∃ v, atI xs i = some v ∧ v ∈ xs := by
  obtain ⟨v, e, m⟩ := get_of h0 h1
  exact ⟨v, atI_of h0 e, m⟩
theorem cp10_12 : CPow 10 12 := ⟨by decide, by decide, by decide⟩
theorem cp10_11 : CPow 10 11 := ⟨by decide, by decide, by decide⟩
end Gx

set_option Elab.async false
set_option linter.all false
set_option maxRecDepth 100000
set_option maxHeartbeats 4000000
namespace K17
open PySem PySem.Spec PyProof.Rows L2 Evl Gx
abbrev s_l_one : Stmt := topS 11
theorem sc_l_one : FnScope ["_law_bag_here", "_law_things"] ["_law_bag_here", "_law_things"] (defScope s_l_one) := ⟨rfl, rfl, rfl, by decide +kernel, rfl, by decide +kernel, by decide +kernel⟩
abbrev s_l_number : Stmt := topS 12
theorem sc_l_number : FnScope ["_law_bag_here", "_law_way"] ["_law_bag_here"] (defScope s_l_number) := ⟨rfl, rfl, rfl, by decide +kernel, rfl, by decide +kernel, by decide +kernel⟩
section
variable {P : Program} {w : World} {K : PySem.W.Frag} {mg : Str → Option Value} {base : Heap}
variable {f_l_take f_l_one : Addr} {fd_l_take fd_l_one : FuncData}
theorem ok_one {f : Addr} {fd : FuncData} (D : Def K mg "_law_one" s_l_one f fd ["_law_bag_here", "_law_things"]) (bi : Bi mg)
    (D_l_take : Def K mg "_law_take" s_l_take f_l_take fd_l_take ["_law_bag_here", "_law_many"])
    (G_l_take : FnOk P w K mg base CX0 1 f_l_take fd_l_take ["_law_bag_here", "_law_many"] spTake) :
    FnOk P w K mg base CX0 2 f fd ["_law_bag_here", "_law_things"] (spOne K) := by
  refine D.fn.ok sc_l_one (fun vs H Q E h => ?_) (fun cdv A outer s H vs Q E hr h => ?_)
  · obtain ⟨b, l, xs, rfl, _⟩ := h
    rfl
  · obtain ⟨b, l, xs, rfl, hb, hl, h0, h1, k⟩ := h
    refine ⟨_, (pss_one (ps_ret (pe_ix ix_list (pv 1) (pe_call G_l_take (hr.mono (by first | decide | omega)) rfl D_l_take.mg D_l_take.fn.kp D_l_take.bd .nil pass0 (pa_cons (pv 0) (pa_cons (pe_callB call_len_seq (by rfl) bi.len bt_len (pa_cons (pv 1) pa_nil)) pa_nil))) (fun _ _ => rfl)))), ?_⟩
    refine ⟨_, rfl, _, rfl, _, rfl, l, xs, rfl, .inl hl, b, xs.length, rfl, hb, by omega, by omega, fun i i0 i1 => ?_⟩
    obtain ⟨v, e, m⟩ := item_in i0 i1
    exact ⟨l, xs, i, v, rfl, rfl, hl, e, k v m⟩
theorem ok_number {f : Addr} {fd : FuncData} (D : Def K mg "_law_number" s_l_number f fd ["_law_bag_here"]) (bi : Bi mg)
    (D_l_take : Def K mg "_law_take" s_l_take f_l_take fd_l_take ["_law_bag_here", "_law_many"])
    (G_l_take : FnOk P w K mg base CX0 1 f_l_take fd_l_take ["_law_bag_here", "_law_many"] spTake) :
    FnOk P w K mg base CX0 2 f fd ["_law_bag_here"] spNumber := by
  refine D.fn.ok sc_l_number (fun vs H Q E h => ?_) (fun cdv A outer s H vs Q E hr h => ?_)
  · obtain ⟨b, rfl, _⟩ := h
    rfl
  · obtain ⟨b, rfl, hb, k⟩ := h
    refine ⟨_, (pss_cons (ps_set (i := 1) sc_l_number.nd rfl (Or.inl rfl) (pe_call G_l_take (hr.mono (by first | decide | omega)) rfl D_l_take.mg D_l_take.fn.kp D_l_take.bd .nil pass0 (pa_cons (pv 0) (pa_cons pe_int pa_nil))))
  (pss_cons (ps_if (pt_cmpR op_gt (pv 1) pe_int (nomark _))
    (pss_one (ps_ret (pe_op op_sub (pe_call G_l_take (hr.mono (by first | decide | omega)) rfl D_l_take.mg D_l_take.fn.kp D_l_take.bd .nil pass0 (pa_cons (pv 0) (pa_cons pe_int pa_nil))) pe_int)))
    pss_nil)
  (pss_one (ps_ret (pe_op op_mul (pe_ix ix_list (pe_lst (pa_cons (pe_op op_sub (pe_op op_pow pe_int pe_int) (pe_call G_l_take (hr.mono (by first | decide | omega)) rfl D_l_take.mg D_l_take.fn.kp D_l_take.bd .nil pass0 (pa_cons (pv 0) (pa_cons pe_int pa_nil)))) (pa_cons (pe_call G_l_take (hr.mono (by first | decide | omega)) rfl D_l_take.mg D_l_take.fn.kp D_l_take.bd .nil pass0 (pa_cons (pv 0) (pa_cons pe_int pa_nil))) pa_nil))) (pv 1) (fun _ _ => rfl)) (pe_ix ix_list (pe_lst (pa_cons pe_int (pa_cons (pe_un un_neg pe_int) pa_nil))) (pe_call G_l_take (hr.mono (by first | decide | omega)) rfl D_l_take.mg D_l_take.fn.kp D_l_take.bd .nil pass0 (pa_cons (pv 0) (pa_cons pe_int pa_nil))) (fun _ _ => rfl))))))), ?_⟩
    refine ⟨_, rfl, b, 12, rfl, hb, by decide, by decide, fun way w0 w1 => ?_⟩
    refine ⟨_, rfl, way, 1, rfl, rfl, _, rfl, ?_⟩
    refine if_d (fun hw => ?_) (fun hw => ?_)
    · refine ⟨_, rfl, b, 13, rfl, hb, by decide, by decide, fun x x0 x1 => ⟨x, 6, rfl, rfl, ?_⟩⟩
      exact k (x - 6) ⟨by omega, by omega⟩ H (Ex.refl H)
    · refine ⟨10, 12, rfl, rfl, cp10_12, _, rfl, b, 3, rfl, hb, by decide, by decide, fun x x0 x1 => ⟨_, _, rfl, rfl, ?_⟩⟩
      refine ⟨_, rfl, b, 2000, rfl, hb, by decide, by decide, fun y y0 y1 => ⟨sz2, fun p hp => ?_⟩⟩
      have hb1 : Bag (upd H p (.lst [.int (10 ^ (12 : Int).toNat - x), .int y])) b := hb.to (Ex.new hp)
      have e1 : ∃ z : Int, atI [V.int (10 ^ (12 : Int).toNat - x), V.int y] way = some (.int z) ∧ Near z := by
        rw [p10_12]
        rcases (by omega : way = 0 ∨ way = 1) with rfl | rfl
        · exact ⟨_, rfl, by omega, by omega⟩
        · exact ⟨_, rfl, by omega, by omega⟩
      obtain ⟨z, ez, nz⟩ := e1
      refine ⟨_, rfl, p, _, way, .int z, rfl, rfl, SqL.of upd_same, ez, 1, rfl, sz2, fun q hq => ?_⟩
      refine ⟨_, rfl, b, 2, rfl, hb1.to (Ex.new hq), by decide, by decide, fun g g0 g1 => ?_⟩
      have ex := (Ex.new (o := .lst [.int (10 ^ (12 : Int).toNat - x), .int y]) hp).trans (Ex.new (o := .lst [.int 1, .int (-1)]) hq)
      rcases (by omega : g = 0 ∨ g = 1) with rfl | rfl
      · refine ⟨q, _, 0, .int 1, rfl, rfl, SqL.of upd_same, rfl, z, 1, rfl, rfl, .inr ⟨by decide, by decide⟩, ?_⟩
        exact k (z * 1) ⟨by omega, by omega⟩ _ ex
      · refine ⟨q, _, 1, .int (-1), rfl, rfl, SqL.of upd_same, rfl, z, -1, rfl, rfl, .inr ⟨by decide, by decide⟩, ?_⟩
        exact k (z * -1) ⟨by omega, by omega⟩ _ ex
end
end K17

set_option Elab.async false
set_option linter.all false
set_option maxRecDepth 100000
set_option maxHeartbeats 4000000
namespace K17
open PySem PySem.Spec PyProof.Rows L2 Evl Gx
abbrev s_l_step : Stmt := topS 13
theorem sc_l_step : FnScope ["_law_bag_here", "_law_word", "_law_by", "_law_keys", "_law_key", "_law_number_here"] ["_law_bag_here"] (defScope s_l_step) := ⟨rfl, rfl, rfl, by decide +kernel, rfl, by decide +kernel, by decide +kernel⟩
theorem tk6 {ks : List Int} (n : Nat) : cutV (ks.map V.int) none (some (6 : Int)) = (ks.take 6).map V.int := by
  have e := cut_take (ks.map V.int) 6
  rw [show ((6 : Nat) : Int) = (6 : Int) from rfl] at e
  rw [e, List.map_take]
section
variable {P : Program} {w : World} {K : PySem.W.Frag} {mg : Str → Option Value} {base : Heap}
variable {f_l_take f_l_one f_l_number : Addr} {fd_l_take fd_l_one fd_l_number : FuncData}
theorem ok_step {f : Addr} {fd : FuncData} (D : Def K mg "_law_step" s_l_step f fd ["_law_bag_here"]) (bi : Bi mg)
    (D_l_take : Def K mg "_law_take" s_l_take f_l_take fd_l_take ["_law_bag_here", "_law_many"])
    (G_l_take : FnOk P w K mg base CX0 1 f_l_take fd_l_take ["_law_bag_here", "_law_many"] spTake)
    (D_l_one : Def K mg "_law_one" s_l_one f_l_one fd_l_one ["_law_bag_here", "_law_things"])
    (G_l_one : FnOk P w K mg base CX0 2 f_l_one fd_l_one ["_law_bag_here", "_law_things"] (spOne K))
    (D_l_number : Def K mg "_law_number" s_l_number f_l_number fd_l_number ["_law_bag_here"])
    (G_l_number : FnOk P w K mg base CX0 2 f_l_number fd_l_number ["_law_bag_here"] spNumber) :
    FnOk P w K mg base CX0 3 f fd ["_law_bag_here"] (spStep K) := by
  refine D.fn.ok sc_l_step (fun vs H Q E h => ?_) (fun cdv A outer s H vs Q E hr h => ?_)
  · obtain ⟨b, rfl, _⟩ := h
    rfl
  · obtain ⟨b, rfl, hb, k⟩ := h
    refine ⟨_, (pss_cons (ps_set (i := 1) sc_l_step.nd rfl (Or.inl rfl) (pe_call G_l_one (hr.mono (by first | decide | omega)) rfl D_l_one.mg D_l_one.fn.kp D_l_one.bd .nil pass0 (pa_cons (pv 0) (pa_cons (pe_lst (pa_cons pe_str (pa_cons pe_str (pa_cons pe_str (pa_cons pe_str (pa_cons pe_str pa_nil)))))) pa_nil))))
  (pss_cons (ps_if (pt_cmpR op_eq (pv 1) pe_str (nomark _))
    (pss_cons (ps_set (i := 2) sc_l_step.nd rfl (Or.inr rfl) (pe_ix ix_list (pe_lst (pa_cons pe_int (pa_cons pe_int (pa_cons pe_int (pa_cons (pe_op op_add (pe_op op_pow pe_int pe_int) pe_int) pa_nil))))) (pe_call G_l_take (hr.mono (by first | decide | omega)) rfl D_l_take.mg D_l_take.fn.kp D_l_take.bd .nil pass0 (pa_cons (pv 0) (pa_cons pe_int pa_nil))) (fun _ _ => rfl)))
    (pss_cons (ps_set (i := 3) sc_l_step.nd rfl (Or.inl rfl) (pe_slice sl_list (pe_lc (own := [("_law_key", 4)]) rfl sc_l_step.nd (pi_range2 rfl bi.range (pa_cons (pe_un un_neg pe_int) (pa_cons pe_int pa_nil))) (blkOk_by (N := ["_law_bag_here", "_law_word", "_law_by", "_law_keys", "_law_key", "_law_number_here"]) (sc := defScope s_l_step) (by decide +kernel)) (fun _ _ _ _ _ => (pg_name (i := 4) sc_l_step.nd rfl (Or.inl rfl))) (fun _ _ _ _ _ => (pts_one (pt_cmpR op_eq (pe_call G_l_take (hr.mono (by first | decide | omega)) rfl D_l_take.mg D_l_take.fn.kp D_l_take.bd .nil pass0 (pa_cons (pv 0) (pa_cons pe_int pa_nil))) pe_int (nomark _)))) (fun _ _ _ _ _ => (pe_op op_mul (pv 4) (pv 2)))) po_none (po_some pe_int)))
    (pss_one (ps_ret (pe_tup (pa_cons pe_str (pa_cons (pe_callTy call_tupX (by rfl) bi.tuple bt_tuple (pa_cons (pe_lc (own := [("_law_key", 4)]) rfl sc_l_step.nd (pi_list (pv 3)) (blkOk_by (N := ["_law_bag_here", "_law_word", "_law_by", "_law_keys", "_law_key", "_law_number_here"]) (sc := defScope s_l_step) (by decide +kernel)) (fun _ _ _ _ _ => (pg_name (i := 4) sc_l_step.nd rfl (Or.inl rfl))) (fun _ _ _ _ _ => pts_nil) (fun _ _ _ _ _ => (pe_tup (pa_cons (pv 4) (pa_cons (pe_call G_l_number (hr.mono (by first | decide | omega)) rfl D_l_number.mg D_l_number.fn.kp D_l_number.bd .nil pass0 (pa_cons (pv 0) pa_nil)) pa_nil))))) pa_nil)) pa_nil)))))))
    pss_nil)
  (pss_cons (ps_set (i := 5) sc_l_step.nd rfl (Or.inl rfl) (pe_call G_l_number (hr.mono (by first | decide | omega)) rfl D_l_number.mg D_l_number.fn.kp D_l_number.bd .nil pass0 (pa_cons (pv 0) pa_nil)))
  (pss_cons (ps_if (pt_cmpR op_eq (pv 1) pe_str (nomark _))
    (pss_one (ps_ret (pe_tup (pa_cons pe_str (pa_cons (pe_callB (call_max2 rfl) (by rfl) bi.max bt_max (pa_cons pe_int (pa_cons (pe_callB call_abs (by rfl) bi.abs bt_abs (pa_cons (pv 5) pa_nil)) pa_nil))) pa_nil)))))
    pss_nil)
  (pss_one (ps_ret (pe_tup (pa_cons (pv 1) (pa_cons (pe_ifExp (L2.PW.pt (pw_or (pt_cmpR op_ne (pv 5) pe_int (nomark _)) (pw_or1 (pt_cmpR op_ne (pv 1) pe_str (nomark _))))) (pv 5) pe_int) pa_nil))))))))), ?_⟩
    refine ⟨_, rfl, sz5, fun p hp => ?_⟩
    have hb1 := hb.to (Ex.new (o := .lst [.str "plus", .str "times", .str "into", .str "over", .str "found"]) hp)
    have x1 := Ex.new (o := .lst [.str "plus", .str "times", .str "into", .str "over", .str "found"]) hp
    refine ⟨b, p, _, rfl, hb1, SqL.of upd_same, by show (0 : Nat) < 5; decide, by show (5 : Nat) < 100000; decide, fun x hx => ?_⟩
    generalize upd H p (.lst [.str "plus", .str "times", .str "into", .str "over", .str "found"]) = H1 at hb1 x1 ⊢
    refine ⟨_, rfl, ?_⟩
    have hx5 : x = .str "plus" ∨ x = .str "times" ∨ x = .str "into" ∨ x = .str "over" ∨ x = .str "found" := by
      simpa using hx
    by_cases hf : x = .str "found"
    · subst hf
      refine ⟨rfl, _, rfl, if_t (by decide +kernel) ?_⟩
      -- _law_by
      refine ⟨10, 11, rfl, rfl, cp10_11, _, 7, rfl, rfl, sz4, fun q hq => ?_⟩
      have hb2 := hb1.to (Ex.new (o := .lst [.int 1, .int 1, .int 1, .int (10 ^ (11 : Int).toNat + 7)]) hq)
      have x2 := x1.trans (Ex.new (o := .lst [.int 1, .int 1, .int 1, .int (10 ^ (11 : Int).toNat + 7)]) hq)
      refine ⟨_, rfl, b, 4, rfl, hb2, by decide, by decide, fun i i0 i1 => ?_⟩
      have eby : ∃ y : Int, atI [V.int 1, .int 1, .int 1, .int (10 ^ (11 : Int).toNat + 7)] i = some (.int y) ∧ 0 < y ∧ y ≤ 100000000007 := by
        rw [p10_11]
        rcases (by omega : i = 0 ∨ i = 1 ∨ i = 2 ∨ i = 3) with rfl | rfl | rfl | rfl
        · exact ⟨1, rfl, by omega, by omega⟩
        · exact ⟨1, rfl, by omega, by omega⟩
        · exact ⟨1, rfl, by omega, by omega⟩
        · exact ⟨_, rfl, by omega, by omega⟩
      obtain ⟨y, ey, y0, y1⟩ := eby
      refine ⟨q, _, i, .int y, rfl, rfl, SqL.of upd_same, ey, ?_⟩
      generalize upd H1 q (.lst [.int 1, .int 1, .int 1, .int (10 ^ (11 : Int).toNat + 7)]) = H2 at hb2 x2 ⊢
      -- _law_keys
      refine ⟨_, rfl, -3, 4, rfl, ⟨by decide, by decide, by decide, by decide⟩, fun d hd => ?_⟩
      refine lc_range (lo := -3) (n := 7) (fun j H' => Ex H2 H' ∧ ∃ ks : List Int, H' d = some (.lst (ks.map V.int)) ∧ ks.length ≤ j ∧
        ks.Pairwise (· < ·) ∧ ∀ k ∈ ks, -3 * y ≤ k ∧ k < (-3 + (j : Int)) * y ∧ k ≤ 3 * y) ?_ ?_ ?_
      · exact ⟨Ex.new hd, [], upd_same, Nat.le_refl _, .nil, by simp⟩
      · rintro j H' hj ⟨e1, ks, p1, p2, p3, p4⟩
        refine ⟨rfl, _, rfl, b, 2, rfl, hb2.to e1, by decide, by decide, fun z z0 z1 => ⟨rfl, _, rfl, ?_⟩⟩
        have step : (-3 + ((j + 1 : Nat) : Int)) * y = (-3 + (j : Int)) * y + y := by
          rw [show (-3 + ((j + 1 : Nat) : Int)) = (-3 + (j : Int)) + 1 by omega, Int.add_mul, Int.one_mul]
        refine if_d (fun _ => ?_) (fun _ => ?_)
        · refine ⟨_, rfl, _, rfl, -3 + (j : Int), y, rfl, rfl, .inl ⟨by omega, by omega⟩, ks.map V.int, p1, by rw [List.length_map]; exact small (by omega), ?_⟩
          have lo : -3 * y ≤ (-3 + (j : Int)) * y := Int.mul_le_mul_of_nonneg_right (by omega) (by omega)
          have hi : (-3 + (j : Int)) * y ≤ 3 * y := Int.mul_le_mul_of_nonneg_right (by omega) (by omega)
          refine ⟨e1.mut hd, ks ++ [(-3 + (j : Int)) * y], ?_, by simp; omega, ?_, ?_⟩
          · rw [upd_same, List.map_append]; rfl
          · rw [List.pairwise_append]
            refine ⟨p3, List.pairwise_singleton _ _, fun u hu v hv => ?_⟩
            rw [List.mem_singleton] at hv
            subst hv
            exact (p4 u hu).2.1
          · intro u hu
            rcases List.mem_append.mp hu with g | g
            · have := p4 u g
              omega
            · rw [List.mem_singleton] at g
              subst g
              omega
        · exact ⟨e1, ks, p1, by omega, p3, fun u hu => by have := p4 u hu; omega⟩
      · rintro H3 ⟨e1, ks, p1, p2, p3, p4⟩
        refine ⟨6, rfl, d, ks.map V.int, rfl, SqL.of p1, fun r hrr => ?_⟩
        rw [tk6 6]
        have nn : ∀ k ∈ ks.take 6, Near k := fun u hu => by
          have := p4 u (List.mem_of_mem_take hu)
          constructor <;> omega
        have pw : (ks.take 6).Pairwise (· < ·) := p3.sublist (List.take_sublist _ _)
        have ln : (ks.take 6).length ≤ 6 := by rw [List.length_take]; omega
        generalize ks.take 6 = ms at nn pw ln ⊢
        have e2 : Ex H2 (upd H3 r (.lst (ms.map V.int))) := e1.trans (Ex.new hrr)
        have hr4 : upd H3 r (.lst (ms.map V.int)) r = some (.lst (ms.map V.int)) := upd_same
        generalize upd H3 r (.lst (ms.map V.int)) = H4 at e2 hr4 ⊢
        -- return ('found', tuple([..]))
        refine ⟨_, rfl, r, rfl, ⟨_, SqL.of hr4⟩, fun d2 hd2 => ?_⟩
        refine lc_list (xs := ms.map V.int) (fun j H' => Ex H4 H' ∧ ∃ (as : List Addr) (ps : List (Int × Int)), H' d2 = some (.lst (as.map V.ref)) ∧
          Paired (PairAt K H') as ps ∧ ps.map (·.1) = ms.take j ∧ ∀ pr ∈ ps, Near pr.2) ?_ (fun j H' _ q => SqL.of (q.1 r _ hr4)) ?_ ?_
        · exact ⟨Ex.new hd2, [], [], upd_same, .nil, rfl, by simp⟩
        · rintro j v H' hj ⟨g1, as, ps, g2, g3, g4, g5⟩
          obtain ⟨u, hu, rfl⟩ : ∃ u, ms[j]? = some u ∧ v = V.int u := by
            rw [List.getElem?_map] at hj
            obtain ⟨u, h1, h2⟩ := Option.map_eq_some_iff.mp hj
            exact ⟨u, h1, h2.symm⟩
          have hjl := (List.getElem?_eq_some_iff.mp hu).1
          have asl : as.length = j := by
            have l1 : as.length = ps.length := Paired.length g3
            have l2 := congrArg List.length g4
            rw [List.length_map, List.length_take] at l2
            omega
          refine ⟨rfl, _, rfl, _, rfl, b, rfl, hb2.to (e2.trans g1), fun m hm H5 e5 => ⟨sz2, fun t ht => ?_⟩⟩
          have n2 : H' d2 ≠ none := by rw [g2]; simp
          have td : t ≠ d2 := fun e => by subst e; rw [e5 _ _ g2] at ht; cases ht
          refine ⟨as.map V.ref, by rw [upd_ne td.symm]; exact e5 _ _ g2, by rw [List.length_map]; exact small (by omega), ?_⟩
          have e6 : Ex H4 (upd (upd H5 t (.tup [.int u, .int m])) d2 (.lst (as.map V.ref ++ [.ref t]))) := Ex.mut ((g1.trans e5).trans (Ex.new ht)) hd2
          refine ⟨e6, as ++ [t], ps ++ [(u, m)], by rw [upd_same, List.map_append]; rfl, ?_, ?_, ?_⟩
          · refine paired_app (L2.Paired.mapP g3 fun a pr q => ?_) (.cons ?_ .nil)
            · -- an elder pair stands
              rcases q with (q | ⟨o, q⟩) | q
              · refine .inl (.inl ?_)
                have nad : a ≠ d2 := fun e => by subst e; rw [g2] at q; cases q
                rw [upd_ne nad]
                exact (e5.trans (Ex.new ht)) _ _ q
              · refine .inl (.inr ⟨o, ?_⟩)
                have nad : a ≠ d2 := fun e => by subst e; rw [g2] at q; cases q
                rw [upd_ne nad]
                exact (e5.trans (Ex.new ht)) _ _ q
              · exact .inr q
            · refine .inl (.inl ?_)
              rw [upd_ne td]
              exact upd_same
          · rw [List.map_append, g4]
            show ms.take j ++ [u] = _
            rw [List.take_add_one, hu]; rfl
          · intro pr hpr
            rcases List.mem_append.mp hpr with g | g
            · exact g5 pr g
            · rw [List.mem_singleton] at g; subst g; exact hm
        · rintro H5 ⟨g1, as, ps, g2, g3, g4, g5⟩
          rw [List.length_map, List.take_length] at g4
          refine ⟨d2, as.map V.ref, rfl, SqL.of g2, fun c H6 hc e6 hcx => ⟨sz2, fun t ht => ?_⟩⟩
          have e7 : Ex H (upd H6 t (.tup [.str "found", .ref c])) := (((x2.trans e2).trans g1).trans e6).trans (Ex.new ht)
          refine k _ (.found ps) _ e7 ⟨?_, ?_, ?_⟩ ⟨t, c, as, rfl, SqT.of upd_same, hcx.to (Ex.new ht), paired_to (e6.trans (Ex.new ht)) g3⟩
          · rw [g4]
            exact pw.imp (fun h => by omega)
          · intro pr hpr
            refine ⟨nn pr.1 ?_, g5 pr hpr⟩
            rw [← g4]
            exact List.mem_map_of_mem hpr
          · have := congrArg List.length g4
            rw [List.length_map] at this
            omega
    · -- the other words
      rcases hx5 with e | e | e | e | e
      · subst e
        refine ⟨rfl, _, rfl, if_f (by decide +kernel) ?_⟩
        refine ⟨_, rfl, b, rfl, hb1, fun n hn H2 e2 => ?_⟩
        refine ⟨_, rfl, rfl, _, rfl, if_f (by decide +kernel) ?_⟩
        refine ⟨_, rfl, _, rfl, rfl, _, rfl, ?_⟩
        refine if_nd (fun _ => ?_) (fun _ => ⟨_, rfl, rfl, _, rfl, ?_⟩)
        · refine ⟨_, rfl, sz2, fun t ht => ?_⟩
          exact k _ (.plus n) _ ((x1.trans e2).trans (Ex.new ht)) hn ⟨t, rfl, SqT.of upd_same⟩
        · refine if_t (by decide +kernel) ⟨_, rfl, sz2, fun t ht => ?_⟩
          exact k _ (.plus n) _ ((x1.trans e2).trans (Ex.new ht)) hn ⟨t, rfl, SqT.of upd_same⟩
      · subst e
        refine ⟨rfl, _, rfl, if_f (by decide +kernel) ?_⟩
        refine ⟨_, rfl, b, rfl, hb1, fun n hn H2 e2 => ?_⟩
        refine ⟨_, rfl, rfl, _, rfl, if_f (by decide +kernel) ?_⟩
        refine ⟨_, rfl, _, rfl, rfl, _, rfl, ?_⟩
        refine if_nd (fun h0 => ?_) (fun _ => ⟨_, rfl, rfl, _, rfl, ?_⟩)
        · refine ⟨_, rfl, sz2, fun t ht => ?_⟩
          exact k _ (.times n) _ ((x1.trans e2).trans (Ex.new ht)) ⟨hn, fun e => h0 (by rw [e])⟩ ⟨t, rfl, SqT.of upd_same⟩
        · refine if_f (by decide +kernel) ⟨sz2, fun t ht => ?_⟩
          exact k _ (.times 2) _ ((x1.trans e2).trans (Ex.new ht)) ⟨⟨by decide, by decide⟩, by decide⟩ ⟨t, rfl, SqT.of upd_same⟩
      · subst e
        refine ⟨rfl, _, rfl, if_f (by decide +kernel) ?_⟩
        refine ⟨_, rfl, b, rfl, hb1, fun n hn H2 e2 => ?_⟩
        refine ⟨_, rfl, rfl, _, rfl, if_t (by decide +kernel) ?_⟩
        refine ⟨_, rfl, n, rfl, 1, _, rfl, sz2, fun t ht => ?_⟩
        refine k _ (.into (if (if n < 0 then -n else n) > 1 then (if n < 0 then -n else n) else 1)) _ ((x1.trans e2).trans (Ex.new ht)) ?_ ⟨t, rfl, SqT.of upd_same⟩
        have h1 := hn.1
        have h2 := hn.2
        constructor
        · split <;> (try split) <;> omega
        · split <;> (try split) <;> omega
      · subst e
        refine ⟨rfl, _, rfl, if_f (by decide +kernel) ?_⟩
        refine ⟨_, rfl, b, rfl, hb1, fun n hn H2 e2 => ?_⟩
        refine ⟨_, rfl, rfl, _, rfl, if_f (by decide +kernel) ?_⟩
        refine ⟨_, rfl, _, rfl, rfl, _, rfl, ?_⟩
        refine if_nd (fun _ => ?_) (fun _ => ⟨_, rfl, rfl, _, rfl, ?_⟩)
        · refine ⟨_, rfl, sz2, fun t ht => ?_⟩
          exact k _ (.over n) _ ((x1.trans e2).trans (Ex.new ht)) hn ⟨t, rfl, SqT.of upd_same⟩
        · refine if_t (by decide +kernel) ⟨_, rfl, sz2, fun t ht => ?_⟩
          exact k _ (.over n) _ ((x1.trans e2).trans (Ex.new ht)) hn ⟨t, rfl, SqT.of upd_same⟩
      · exact absurd e hf
end
end K17

set_option Elab.async false
set_option linter.all false
set_option maxRecDepth 100000
set_option maxHeartbeats 4000000
namespace K17
open PySem PySem.Spec PyProof.Rows L2 Evl Gx
abbrev s_l_steps_drawn : Stmt := topS 15
theorem sc_l_steps_drawn : FnScope ["_law_bag_here", "_law_most", "_law_found", "_law_k", "_law_small"] ["_law_bag_here", "_law_most"] (defScope s_l_steps_drawn) := ⟨rfl, rfl, rfl, by decide +kernel, rfl, by decide +kernel, by decide +kernel⟩
section
variable {P : Program} {w : World} {K : PySem.W.Frag} {mg : Str → Option Value} {base : Heap}
variable {f_l_take f_l_step : Addr} {fd_l_take fd_l_step : FuncData}
theorem ok_steps_drawn {f : Addr} {fd : FuncData} (D : Def K mg "_law_steps_drawn" s_l_steps_drawn f fd ["_law_bag_here", "_law_most"]) (bi : Bi mg)
    (D_l_take : Def K mg "_law_take" s_l_take f_l_take fd_l_take ["_law_bag_here", "_law_many"])
    (G_l_take : FnOk P w K mg base CX0 1 f_l_take fd_l_take ["_law_bag_here", "_law_many"] spTake)
    (D_l_step : Def K mg "_law_step" s_l_step f_l_step fd_l_step ["_law_bag_here"])
    (G_l_step : FnOk P w K mg base CX0 3 f_l_step fd_l_step ["_law_bag_here"] (spStep K)) :
    FnOk P w K mg base CX0 4 f fd ["_law_bag_here", "_law_most"] (spSteps K) := by
  refine D.fn.ok sc_l_steps_drawn (fun vs H Q E h => ?_) (fun cdv A outer s H vs Q E hr h => ?_)
  · obtain ⟨b, rfl, _⟩ := h
    rfl
  · obtain ⟨b, rfl, hb, k⟩ := h
    refine ⟨_, (pss_cons (ps_set (i := 2) sc_l_steps_drawn.nd rfl (Or.inl rfl) (pe_lst pa_nil))
  (pss_cons (ps_for PassesOwn.never rfl (pi_range1 rfl bi.range (pa_cons (pe_call G_l_take (hr.mono (by first | decide | omega)) rfl D_l_take.mg D_l_take.fn.kp D_l_take.bd .nil pass0 (pa_cons (pv 0) (pa_cons (pe_op op_add (pv 1) pe_int) pa_nil))) pa_nil)) (pg_name (i := 3) sc_l_steps_drawn.nd rfl (Or.inl rfl))
    (pss_one (ps_if (pt_cmpR op_eq (pe_call G_l_take (hr.mono (by first | decide | omega)) rfl D_l_take.mg D_l_take.fn.kp D_l_take.bd .nil pass0 (pa_cons (pv 0) (pa_cons pe_int pa_nil))) pe_int (nomark _))
      (pss_one (ps_expr (pe_bm PySem.F.plainAttrs_list PySem.F.slot_list_append PySem.F.type_list_append mt_append (pv 2) (pa_cons (pe_call G_l_step (hr.mono (by first | decide | omega)) rfl D_l_step.mg D_l_step.fn.kp D_l_step.bd .nil pass0 (pa_cons (pv 0) pa_nil)) pa_nil))))
      (pss_cons (ps_set (i := 4) sc_l_steps_drawn.nd rfl (Or.inl rfl) (pe_lst (pa_cons (pe_tup (pa_cons pe_str (pa_cons (pe_op op_sub (pe_call G_l_take (hr.mono (by first | decide | omega)) rfl D_l_take.mg D_l_take.fn.kp D_l_take.bd .nil pass0 (pa_cons (pv 0) (pa_cons pe_int pa_nil))) pe_int) pa_nil))) (pa_cons (pe_tup (pa_cons pe_str (pa_cons (pe_ix ix_list (pe_lst (pa_cons (pe_un un_neg pe_int) (pa_cons (pe_un un_neg pe_int) (pa_cons pe_int (pa_cons pe_int pa_nil))))) (pe_call G_l_take (hr.mono (by first | decide | omega)) rfl D_l_take.mg D_l_take.fn.kp D_l_take.bd .nil pass0 (pa_cons (pv 0) (pa_cons pe_int pa_nil))) (fun _ _ => rfl)) pa_nil))) pa_nil))))
      (pss_cons (ps_set (i := 4) sc_l_steps_drawn.nd rfl (Or.inl rfl) (pe_op op_cat (pv 4) (pe_lst (pa_cons (pe_tup (pa_cons pe_str (pa_cons (pe_op op_add pe_int (pe_call G_l_take (hr.mono (by first | decide | omega)) rfl D_l_take.mg D_l_take.fn.kp D_l_take.bd .nil pass0 (pa_cons (pv 0) (pa_cons pe_int pa_nil)))) pa_nil))) (pa_cons (pe_tup (pa_cons pe_str (pa_cons (pe_op op_sub (pe_call G_l_take (hr.mono (by first | decide | omega)) rfl D_l_take.mg D_l_take.fn.kp D_l_take.bd .nil pass0 (pa_cons (pv 0) (pa_cons pe_int pa_nil))) pe_int) pa_nil))) pa_nil)))))
      (pss_one (ps_expr (pe_bm PySem.F.plainAttrs_list PySem.F.slot_list_append PySem.F.type_list_append mt_append (pv 2) (pa_cons (pe_ix ix_list (pv 4) (pe_call G_l_take (hr.mono (by first | decide | omega)) rfl D_l_take.mg D_l_take.fn.kp D_l_take.bd .nil pass0 (pa_cons (pv 0) (pa_cons pe_int pa_nil))) (fun _ _ => rfl)) pa_nil)))))))))
  (pss_one (ps_ret (pe_callTy call_tupX (by rfl) bi.tuple bt_tuple (pa_cons (pv 2) pa_nil)))))), ?_⟩
    refine ⟨by decide, fun l hl => ?_⟩
    have hb1 := hb.to (Ex.new (o := .lst []) hl)
    refine ⟨_, rfl, _, rfl, 4, 1, rfl, rfl, b, 5, rfl, hb1, by decide, by decide, fun m m0 m1 => ?_⟩
    refine ⟨m, rfl, by omega, by omega, ?_⟩
    refine for_range (n := m.toNat) (fun i σ H' => ∃ (x3 x4 : Option V) (ws : List V) (ss : List Stp), σ = [some (.ref b), some (.int 4), some (.ref l), x3, x4] ∧
      Ex H H' ∧ H' l = some (.lst ws) ∧ ss.length = i ∧ (∀ s ∈ ss, Stp.ok s) ∧ StpsAt K H' ws ss) ?_ ?_ ?_
    · exact ⟨none, none, [], [], rfl, Ex.new hl, upd_same, rfl, by simp, .nil⟩
    · rintro i σ H1 hi ⟨x3, x4, ws, ss, rfl, e1, hw, hs, hok, hst⟩
      have wl : ws.length = i := by rw [Paired.length hst, hs]
      -- a new step goes to the list's end
      have fin : ∀ (v : V) (s : Stp) (H2 : Hp) (y3 y4 : Option V), Ex H1 H2 → s.ok → StpAt K H2 v s →
          ∃ (x3 x4 : Option V) (ws' : List V) (ss' : List Stp), [some (.ref b), some (.int 4), some (.ref l), y3, y4] = [some (.ref b), some (.int 4), some (.ref l), x3, x4] ∧
            Ex H (upd H2 l (.lst (ws ++ [v]))) ∧ upd H2 l (.lst (ws ++ [v])) l = some (.lst ws') ∧ ss'.length = i + 1 ∧ (∀ s ∈ ss', Stp.ok s) ∧
            StpsAt K (upd H2 l (.lst (ws ++ [v]))) ws' ss' := by
        intro v s H2 y3 y4 e2 ho hv
        have ei : ExI H2 (upd H2 l (.lst (ws ++ [v]))) := ExI.put (e2 _ _ hw) rfl
        refine ⟨y3, y4, ws ++ [v], ss ++ [s], rfl, (e1.trans e2).mut hl, upd_same, by simp [hs], fun z hz => ?_, ?_⟩
        · rcases List.mem_append.mp hz with g | g
          · exact hok z g
          · rw [List.mem_singleton] at g; subst g; exact ho
        · exact paired_app (stps_toI (stps_to hst e2) ei) (.cons (hv.toI ei) .nil)
      refine ⟨_, rfl, b, 3, rfl, (hb.to e1), by decide, by decide, fun z z0 z1 => ⟨rfl, _, rfl, ?_⟩⟩
      refine if_d (fun _ => ?_) (fun _ => ?_)
      · refine ⟨_, rfl, .inl ⟨rfl, _, SqL.of hw⟩, _, rfl, b, rfl, hb.to e1, fun v s H2 e2 ho hv => ?_⟩
        exact ⟨l, ws, v, rfl, rfl, e2 _ _ hw, small (by omega), fin v s H2 _ _ e2 ho hv⟩
      · -- _law_small
        refine ⟨_, rfl, b, 9, rfl, hb.to e1, by decide, by decide, fun a a0 a1 => ⟨a, 4, rfl, rfl, sz2, fun t1 n1 => ?_⟩⟩
        have f1 := e1.trans (Ex.new (o := .tup [.str "plus", .int (a - 4)]) n1)
        have g1 : Ex H1 (upd H1 t1 (.tup [.str "plus", .int (a - 4)])) := Ex.new n1
        have s1 : upd H1 t1 (.tup [.str "plus", .int (a - 4)]) t1 = some (.tup [.str "plus", .int (a - 4)]) := upd_same
        generalize upd H1 t1 (.tup [.str "plus", .int (a - 4)]) = H2 at f1 g1 s1 ⊢
        refine ⟨2, rfl, 1, rfl, sz4, fun q nq => ?_⟩
        have f2 := f1.trans (Ex.new (o := .lst [.int (-2), .int (-1), .int 2, .int 3]) nq)
        have g2 := g1.trans (Ex.new (o := .lst [.int (-2), .int (-1), .int 2, .int 3]) nq)
        have s2 := (Ex.new (o := .lst [.int (-2), .int (-1), .int 2, .int 3]) nq) _ _ s1
        refine ⟨_, rfl, b, 4, rfl, hb.to f2, by decide, by decide, fun i2 j0 j1 => ?_⟩
        have it : ∃ y : Int, atI [V.int (-2), .int (-1), .int 2, .int 3] i2 = some (.int y) ∧ Near y ∧ y ≠ 0 := by
          rcases (by omega : i2 = 0 ∨ i2 = 1 ∨ i2 = 2 ∨ i2 = 3) with rfl | rfl | rfl | rfl
          · exact ⟨-2, rfl, by decide, by decide⟩
          · exact ⟨-1, rfl, by decide, by decide⟩
          · exact ⟨2, rfl, by decide, by decide⟩
          · exact ⟨3, rfl, by decide, by decide⟩
        obtain ⟨y, ey, ny, y0⟩ := it
        refine ⟨q, _, i2, .int y, rfl, rfl, SqL.of upd_same, ey, sz2, fun t2 n2 => ?_⟩
        generalize upd H2 q (.lst [.int (-2), .int (-1), .int 2, .int 3]) = H3 at f2 g2 s2 n2 ⊢
        have f3 := f2.trans (Ex.new (o := .tup [.str "times", .int y]) n2)
        have g3 := g2.trans (Ex.new (o := .tup [.str "times", .int y]) n2)
        have s3 := (Ex.new (o := .tup [.str "times", .int y]) n2) _ _ s2
        have u3 : upd H3 t2 (.tup [.str "times", .int y]) t2 = some (.tup [.str "times", .int y]) := upd_same
        generalize upd H3 t2 (.tup [.str "times", .int y]) = H4 at f3 g3 s3 u3 ⊢
        refine ⟨sz2, fun c nc => ?_⟩
        have f4 := f3.trans (Ex.new (o := .lst [.ref t1, .ref t2]) nc)
        have g4 := g3.trans (Ex.new (o := .lst [.ref t1, .ref t2]) nc)
        have s4 := (Ex.new (o := .lst [.ref t1, .ref t2]) nc) _ _ s3
        have u4 := (Ex.new (o := .lst [.ref t1, .ref t2]) nc) _ _ u3
        have v4 : upd H4 c (.lst [.ref t1, .ref t2]) c = some (.lst [.ref t1, .ref t2]) := upd_same
        generalize upd H4 c (.lst [.ref t1, .ref t2]) = H5 at f4 g4 s4 u4 v4 ⊢
        -- .. + [..]
        refine ⟨_, rfl, _, rfl, b, 4, rfl, hb.to f4, by decide, by decide, fun a2 p0 p1 => ⟨1, a2, rfl, rfl, sz2, fun t3 n3 => ?_⟩⟩
        have f5 := f4.trans (Ex.new (o := .tup [.str "into", .int (1 + a2)]) n3)
        have g5 := g4.trans (Ex.new (o := .tup [.str "into", .int (1 + a2)]) n3)
        have s5 := (Ex.new (o := .tup [.str "into", .int (1 + a2)]) n3) _ _ s4
        have u5 := (Ex.new (o := .tup [.str "into", .int (1 + a2)]) n3) _ _ u4
        have v5 := (Ex.new (o := .tup [.str "into", .int (1 + a2)]) n3) _ _ v4
        have w5 : upd H5 t3 (.tup [.str "into", .int (1 + a2)]) t3 = some (.tup [.str "into", .int (1 + a2)]) := upd_same
        generalize upd H5 t3 (.tup [.str "into", .int (1 + a2)]) = H6 at f5 g5 s5 u5 v5 w5 ⊢
        refine ⟨_, rfl, b, 41, rfl, hb.to f5, by decide, by decide, fun a3 q0 q1 => ⟨a3, 20, rfl, rfl, sz2, fun t4 n4 => ?_⟩⟩
        have f6 := f5.trans (Ex.new (o := .tup [.str "over", .int (a3 - 20)]) n4)
        have g6 := g5.trans (Ex.new (o := .tup [.str "over", .int (a3 - 20)]) n4)
        have s6 := (Ex.new (o := .tup [.str "over", .int (a3 - 20)]) n4) _ _ s5
        have u6 := (Ex.new (o := .tup [.str "over", .int (a3 - 20)]) n4) _ _ u5
        have v6 := (Ex.new (o := .tup [.str "over", .int (a3 - 20)]) n4) _ _ v5
        have w6 := (Ex.new (o := .tup [.str "over", .int (a3 - 20)]) n4) _ _ w5
        have z6 : upd H6 t4 (.tup [.str "over", .int (a3 - 20)]) t4 = some (.tup [.str "over", .int (a3 - 20)]) := upd_same
        generalize upd H6 t4 (.tup [.str "over", .int (a3 - 20)]) = H7 at f6 g6 s6 u6 v6 w6 z6 ⊢
        refine ⟨sz2, fun c2 nc2 => ?_⟩
        have e7 := Ex.new (o := .lst [.ref t3, .ref t4]) nc2
        have f7 := f6.trans e7
        have g7 := g6.trans e7
        have s7 := e7 _ _ s6
        have u7 := e7 _ _ u6
        have v7 := e7 _ _ v6
        have w7 := e7 _ _ w6
        have z7 := e7 _ _ z6
        have x7 : upd H7 c2 (.lst [.ref t3, .ref t4]) c2 = some (.lst [.ref t3, .ref t4]) := upd_same
        generalize upd H7 c2 (.lst [.ref t3, .ref t4]) = H8 at f7 g7 s7 u7 v7 w7 z7 x7 ⊢
        refine ⟨c, c2, _, _, rfl, rfl, v7, x7, by show 4 ≤ sizeLine; exact sz4, fun d nd => ?_⟩
        have e8 := Ex.new (o := .lst ([.ref t1, .ref t2] ++ [.ref t3, .ref t4])) nd
        have f8 := f7.trans e8
        have g8 := g7.trans e8
        have s8 := e8 _ _ s7
        have u8 := e8 _ _ u7
        have w8 := e8 _ _ w7
        have z8 := e8 _ _ z7
        have d8 : upd H8 d (.lst ([.ref t1, .ref t2] ++ [.ref t3, .ref t4])) d = some (.lst ([.ref t1, .ref t2] ++ [.ref t3, .ref t4])) := upd_same
        generalize upd H8 d (.lst ([.ref t1, .ref t2] ++ [.ref t3, .ref t4])) = H9 at f8 g8 s8 u8 w8 z8 d8 ⊢
        refine ⟨_, rfl, .inl ⟨rfl, _, SqL.of (g8 _ _ hw)⟩, _, rfl, _, rfl, b, 4, rfl, hb.to f8, by decide, by decide, fun j k0 k1 => ?_⟩
        have pick : ∃ (v : V) (s : Stp), atI ([V.ref t1, .ref t2] ++ [.ref t3, .ref t4]) j = some v ∧ s.ok ∧ StpAt K H9 v s := by
          rcases (by omega : j = 0 ∨ j = 1 ∨ j = 2 ∨ j = 3) with rfl | rfl | rfl | rfl
          · exact ⟨.ref t1, .plus (a - 4), rfl, ⟨by omega, by omega⟩, t1, rfl, SqT.of s8⟩
          · exact ⟨.ref t2, .times y, rfl, ⟨ny, y0⟩, t2, rfl, SqT.of u8⟩
          · exact ⟨.ref t3, .into (1 + a2), rfl, ⟨by omega, by omega⟩, t3, rfl, SqT.of w8⟩
          · exact ⟨.ref t4, .over (a3 - 20), rfl, ⟨by omega, by omega⟩, t4, rfl, SqT.of z8⟩
        obtain ⟨v, s, hv, ho, hs'⟩ := pick
        exact ⟨d, _, j, v, rfl, rfl, SqL.of d8, hv, l, ws, v, rfl, rfl, g8 _ _ hw, small (by omega), fin v s H9 _ _ g8 ho hs'⟩
    · rintro σ H1 ⟨x3, x4, ws, ss, rfl, e1, hw, hs, hok, hst⟩
      refine ⟨_, rfl, l, ws, rfl, SqL.of hw, fun c H2 hc e2 hx => ?_⟩
      exact k c ws ss H2 (e1.trans e2) (by omega) hok hx (stps_to hst e2)
end
end K17

set_option Elab.async false
set_option linter.all false
set_option maxRecDepth 100000
set_option maxHeartbeats 2000000
namespace Gx
open PySem PySem.Spec PyProof.Rows L2 Evl
/-! An error class of the package with one field: raised, caught, its field read. -/
/-- what the head tells of the class x at C, whose __init__ (the def st, at fI) stores the field fl -/
structure Err (K : PySem.W.Frag) (mg : Str → Option Value) (x qual fl : Str) (ps : List Str) (st : Stmt) (C fI : Addr) (fd : FuncData) : Prop where
  T : OexC K C
  gC : mg x = some (.ref C)
  iC : PySem.W.findIn K (.ref C) "__init__" = some (some (.ref fI))
  tI : PySem.W.typeIn K (.ref fI) = some (.type "function")
  no : PySem.W.findIn K (.ref C) fl = some none
  xf : XfC K C
  te : PySem.W.exmOne K (.ref C) (.ref C) = some true
  fn : Fun K "__init__" qual st fI fd
  bd : Binds K fd ps []
/-- __init__: the field is stored -/
def spInit (C : Addr) (fl : Str) : Sp := fun vs H Q _ => ∃ (a : Addr) (v : V), vs = [.ref a, v] ∧ H a = some (exo a C none) ∧
  ∀ dx, H dx = none → dx ≠ a → Q .non (upd (upd H dx (exd dx [(fl, v)])) a (exo a C (some dx)))
/-- .. and what a raise of it comes to -/
theorem raise_read {C : Addr} {fl : Str} {ta : TA} {σ : L2.St} {H : Hp} {W : XK} {v : V} {H1 : Hp}
    (ha : ∀ Q : List V → Hp → Prop, Q [v] H1 → ta σ H Q)
    (k : ∀ d H', Ex H1 H' → H' d = some (.xd [(fl, v)]) → W (.ref C) (some d) H') :
    tMkO C (spInit C fl) [] ta σ H W := by
  refine ha _ ⟨by show 1 ≤ 1000; decide, fun a na => ⟨a, v, rfl, upd_same, fun dx nd nda => ⟨rfl, dx, [(fl, v)], upd_same, ?_, ?_, ?_⟩⟩⟩
  · rw [upd_ne nda]; exact upd_same
  · rw [upd_ne nda] at nd; exact nd
  · have nd' : H1 dx = none := by rw [upd_ne nda] at nd; exact nd
    refine k dx _ (fun c o e => ?_) upd_same
    have c1 : c ≠ dx := ne_of_none e nd'
    have c2 : c ≠ a := ne_of_none e na
    rw [upd_ne c1, del_ne c2, upd_ne c2, upd_ne c1, upd_ne c2]
    exact e
/-- the field of the caught error -/
theorem field_read {C a d : Addr} {fl : Str} {v : V} {te : TE} {σ : L2.St} {H : Hp} {Q : VK}
    (ht : ∀ Q : VK, Q (.ref a) H → te σ H Q) (hd : H d = some (.xd [(fl, v)])) (q : Q v H) : tXf a (.ref C) (some d) C fl te σ H Q :=
  ht _ ⟨rfl, rfl, d, _, v, rfl, hd, by simp [List.lookup], q⟩
/-- a tuple's item where the context is another than the written part's -/
theorem ix_tupK {X : Cx} {K : PySem.W.Frag} (h : X.K = K) : IxR X (rIxT K) := by rw [← h]; exact ix_tup
end Gx

set_option Elab.async false
set_option linter.all false
set_option maxRecDepth 100000
set_option maxHeartbeats 4000000
namespace K17
open PySem PySem.Spec PyProof.Rows L2 Evl Gx
abbrev s_Errs___init : Stmt := inClass (topS 2) 0
theorem sc_Errs___init : FnScope ["self", "number"] ["self", "number"] (defScope s_Errs___init) := ⟨rfl, rfl, rfl, by decide +kernel, rfl, by decide +kernel, by decide +kernel⟩
abbrev s_goal_of : Stmt := topS 4
theorem sc_goal_of : FnScope ["entries", "number", "key", "goal"] ["entries", "number"] (defScope s_goal_of) := ⟨rfl, rfl, rfl, by decide +kernel, rfl, by decide +kernel, by decide +kernel⟩
abbrev s_steps_on : Stmt := topS 5
theorem sc_steps_on : FnScope ["steps", "number", "found", "kind", "worth"] ["steps", "number"] (defScope s_steps_on) := ⟨rfl, rfl, rfl, by decide +kernel, rfl, by decide +kernel, by decide +kernel⟩
abbrev s_step_on : Stmt := topS 6
theorem sc_step_on : FnScope ["step", "number"] ["step", "number"] (defScope s_step_on) := ⟨rfl, rfl, rfl, by decide +kernel, rfl, by decide +kernel, by decide +kernel⟩
abbrev Wish (C : Addr) (E : XK) (H : Hp) (n : Int) : Prop := ∀ d H', Ex H H' → H' d = some (.xd [(("number" : Str), .int n)]) → E (.ref C) (some d) H'
def spStepOn (K : PySem.W.Frag) (C : Addr) : Sp := fun vs H Q E => ∃ (v : V) (s : Stp) (n : Int), vs = [v, .int n] ∧ StpAt K H v s ∧ s.ok ∧
  n.natAbs < 2 ^ 200 ∧ (∀ m, lead s n = some m → ∀ H', Ex H H' → Q (.int m) H') ∧ (lead s n = none → Wish C E H n)
def spGoal (K : PySem.W.Frag) (C : Addr) : Sp := fun vs H Q E => ∃ (c : Addr) (as : List Addr) (ps : List (Int × Int)) (n : Int), vs = [.ref c, .int n] ∧
  SqT K H c (as.map V.ref) ∧ Paired (PairAt K H) as ps ∧ (∀ m, look ps n = some m → Q (.int m) H) ∧ (look ps n = none → Wish C E H n)
def spStepsOn (K : PySem.W.Frag) (C : Addr) : Sp := fun vs H Q E => ∃ (a : Addr) (ws : List V) (ss : List Stp) (n : Int), vs = [.ref a, .int n] ∧
  SqT K H a ws ∧ StpsAt K H ws ss ∧ (∀ s ∈ ss, Stp.ok s) ∧ ss.length ≤ 10 ∧ n.natAbs < 2 ^ 200 ∧
  (∀ m, leadAll ss n = some m → Q (.int m) H) ∧ (∀ m, erredAt ss n = some m → Wish C E H m)
theorem divz {k : Int} (h : k ≠ 0) (b : k.natAbs < 2 ^ 2000) : CDivZ n k := ⟨h, by
  have := (Nat.log2_lt (by omega : k.natAbs ≠ 0)).mpr b
  omega⟩
theorem bitsK {k : Int} (h : Near k) : k.natAbs < 2 ^ 2000 := by
  have h1 := near_abs h
  have h2 : (2 : Nat) ^ 40 ≤ 2 ^ 2000 := Nat.pow_le_pow_right (by decide) (by decide)
  have h3 : (2 : Nat) ^ 40 = 1099511627776 := by decide
  omega
theorem lg {k : Int} (h : k.natAbs < 2 ^ 2000) : k.natAbs.log2 < 2001 := by
  by_cases h0 : k.natAbs = 0
  · rw [h0]; decide
  · have := (Nat.log2_lt h0).mpr h
    omega
theorem look_app (a b : List (Int × Int)) (n : Int) : look (a ++ b) n = match look a n with | some m => some m | none => look b n := by
  unfold look
  rw [List.find?_append]
  cases List.find? (fun p => decide (p.1 = n)) a <;> rfl
theorem look_one (k g n : Int) : look [(k, g)] n = if k = n then some g else none := by
  unfold look
  by_cases h : k = n <;> simp [List.find?_cons, h]
theorem take_cons {α : Type} {l : List α} {i : Nat} {x : α} (h : l[i]? = some x) : l = l.take i ++ x :: l.drop (i + 1) := by
  obtain ⟨hi, e⟩ := List.getElem?_eq_some_iff.mp h
  subst e
  rw [List.getElem_cons_drop, List.take_append_drop]
theorem take_snoc {α : Type} {l : List α} {i : Nat} {x : α} (h : l[i]? = some x) : l.take (i + 1) = l.take i ++ [x] := by
  rw [List.take_add_one, h]; rfl
theorem leadAll_app (a b : List Stp) : ∀ n : Int, leadAll (a ++ b) n = match leadAll a n with | some m => leadAll b m | none => none := by
  induction a with
  | nil => intro n; rfl
  | cons s r ih =>
    intro n
    show (match lead s n with | some m => leadAll (r ++ b) m | none => none) =
      match (match lead s n with | some m => leadAll r m | none => none) with | some m => leadAll b m | none => none
    cases lead s n with
    | none => rfl
    | some m => exact ih m
theorem erred_app (a b : List Stp) : ∀ n m : Int, leadAll a n = some m → erredAt (a ++ b) n = erredAt b m := by
  induction a with
  | nil => intro n m h; cases h; rfl
  | cons s r ih =>
    intro n m h
    unfold leadAll at h
    show (match lead s n with | some m => erredAt (r ++ b) m | none => some n) = _
    cases e : lead s n with
    | none => rw [e] at h; cases h
    | some q => rw [e] at h; exact ih q m h
section
variable {P : Program} {w : World} {K : PySem.W.Frag} {mg : Str → Option Value} {base : Heap} {C fI : Addr} {fdI : FuncData}
theorem ok_init (e_Errs : Err K mg "Errs" "Errs.__init__" "number" ["self", "number"] s_Errs___init C fI fdI) :
    FnOk P w K mg base CX0 1 fI fdI ["self", "number"] (spInit C "number") := by
  refine e_Errs.fn.ok sc_Errs___init (fun vs H Q E h => ?_) (fun cdv A outer s H vs Q E hr h => ?_)
  · obtain ⟨a, v, rfl, _⟩ := h
    rfl
  · obtain ⟨a, v, rfl, ha, k⟩ := h
    refine ⟨_, (pss_one (ps_ost (pv 0) (pv 1))), ?_⟩
    exact ⟨_, rfl, _, rfl, a, C, rfl, e_Errs.T, e_Errs.no, .inl ⟨ha, k⟩⟩
theorem ok_goal_of {f : Addr} {fd : FuncData} (D : Def K mg "_goal_of" s_goal_of f fd ["entries", "number"]) (bi : Bi mg)
    (e_Errs : Err K mg "Errs" "Errs.__init__" "number" ["self", "number"] s_Errs___init C fI fdI)
    (GI_Errs : FnOk P w K mg base CX0 1 fI fdI ["self", "number"] (spInit C "number")) :
    FnOk P w K mg base (L2.CX P w) 3 f fd ["entries", "number"] (spGoal K C) := by
  refine D.fn.okX sc_goal_of (fun vs H Q E h => ?_) (fun cdv A outer s0 H vs Q E hr h => ?_)
  · obtain ⟨c, as, ps, n, rfl, _⟩ := h
    rfl
  · obtain ⟨c, as, ps, n, rfl, hc, hp, kq, ke⟩ := h
    refine ⟨_, (pss_cons (ps_for PassesOwn.leaving rfl (pi_tup (pv 0)) (pg_tup rfl (pgs_cons (pg_name (i := 2) sc_goal_of.nd rfl (Or.inl rfl)) (pgs_cons (pg_name (i := 3) sc_goal_of.nd rfl (Or.inl rfl)) pgs_nil)))
    (pss_one (ps_if (pt_cmpR op_eq (pv 2) (pv 1) (nomark _))
      (pss_one (ps_ret (pv 3)))
      pss_nil)))
  (pss_one (L2.ps_raise rfl (L2.takes_of rfl rfl rfl rfl) (pmk_oex e_Errs.T e_Errs.iC e_Errs.tI GI_Errs (hr.mono (by first | decide | omega)) e_Errs.bd .nil pass0 rfl e_Errs.gC (pa_cons (pv 1) pa_nil))))), ?_⟩
    refine ⟨_, rfl, c, rfl, ⟨_, hc⟩, for_tup (xs := as.map V.ref) (fun i σ H' => ∃ x4 x5 : Option V, σ = [some (.ref c), some (.int n), x4, x5] ∧
        H' = H ∧ look (ps.take i) n = none) ?_ (fun i σ H' _ ⟨_, _, _, e, _⟩ => by rw [e]; exact hc) ?_ ?_⟩
    · exact ⟨none, none, rfl, rfl, rfl⟩
    · rintro i v σ H' hi ⟨x4, x5, rfl, eH, hl⟩
      have eH := eH.symm
      subst eH
      obtain ⟨p, hpi, rfl⟩ : ∃ p, as[i]? = some p ∧ v = V.ref p := by
        rw [List.getElem?_map] at hi
        obtain ⟨p, h1, h2⟩ := Option.map_eq_some_iff.mp hi
        exact ⟨p, h1, h2.symm⟩
      obtain ⟨⟨k, g⟩, hk, hpr⟩ := Gx.paired_get hp hpi
      refine ⟨p, _, rfl, hpr, rfl, _, _, rfl, _, _, rfl, rfl, ?_⟩
      refine ⟨_, rfl, _, rfl, rfl, _, rfl, if_d (fun e => ?_) (fun e => ?_)⟩
      · have e := V.int.inj e
        subst e
        refine ⟨_, rfl, kq _ ?_⟩
        show look ps k = _
        rw [take_cons hk, look_app, hl]
        show look ([(k, g)] ++ _) k = _
        rw [look_app, look_one, if_pos rfl]
      · refine ⟨_, _, rfl, rfl, ?_⟩
        rw [take_snoc hk, look_app, hl]
        show look [(k, g)] n = none
        rw [look_one, if_neg (fun z => e (by rw [z]))]
    · rintro σ H' ⟨x4, x5, rfl, eH, hl⟩
      have eH := eH.symm
      subst eH
      rw [List.length_map, Paired.length hp, List.take_length] at hl
      have bye : tMkO C (spInit C "number") [] (tCons (tVar 1) tNil) [some (.ref c), some (.int n), x4, x5] H (fun cls d H' => E cls d H') :=
        raise_read (v := .int n) (H1 := H) (fun Q q => ⟨_, rfl, q⟩) (fun d H' ex hd => ke hl d H' ex hd)
      exact bye
theorem ok_steps_on {f : Addr} {fd : FuncData} (D : Def K mg "steps_on" s_steps_on f fd ["steps", "number"]) (bi : Bi mg)
    (e_Errs : Err K mg "Errs" "Errs.__init__" "number" ["self", "number"] s_Errs___init C fI fdI)
    (GI_Errs : FnOk P w K mg base CX0 1 fI fdI ["self", "number"] (spInit C "number"))
    {f_goal_of : Addr} {fd_goal_of : FuncData} (D_goal_of : Def K mg "_goal_of" s_goal_of f_goal_of fd_goal_of ["entries", "number"])
    (G_goal_of : FnOk P w K mg base (L2.CX P w) 3 f_goal_of fd_goal_of ["entries", "number"] (spGoal K C)) :
    FnOk P w K mg base (L2.CX P w) 4 f fd ["steps", "number"] (spStepsOn K C) := by
  refine D.fn.okX sc_steps_on (fun vs H Q E h => ?_) (fun cdv A outer s0 H vs Q E hr h => ?_)
  · obtain ⟨v, s, n, m, rfl, _⟩ := h
    rfl
  · obtain ⟨a, ws, ss, n, rfl, ha, hst, ho, hl, hn, kq, ke⟩ := h
    refine ⟨_, (pss_cons (ps_set (i := 2) sc_steps_on.nd rfl (Or.inl rfl) (pv 1))
  (pss_cons (ps_for PassesOwn.leaving rfl (pi_tup (pv 0)) (pg_tup rfl (pgs_cons (pg_name (i := 3) sc_steps_on.nd rfl (Or.inl rfl)) (pgs_cons (pg_name (i := 4) sc_steps_on.nd rfl (Or.inl rfl)) pgs_nil)))
    (pss_one (ps_if (pt_cmpR op_eq (pv 3) pe_str (nomark _))
      (pss_cons (ps_if (pt_cmpR op_eq (pv 2) pe_int (nomark _))
        (pss_one (L2.ps_raise rfl (L2.takes_of rfl rfl rfl rfl) (pmk_oex e_Errs.T e_Errs.iC e_Errs.tI GI_Errs (hr.mono (by first | decide | omega)) e_Errs.bd .nil pass0 rfl e_Errs.gC (pa_cons (pv 2) pa_nil))))
        pss_nil)
      (pss_one (ps_set (i := 2) sc_steps_on.nd rfl (Or.inl rfl) (pe_op op_fdivZ (pv 4) (pv 2)))))
      (pss_one (ps_if (pt_cmpR op_eq (pv 3) pe_str (nomark _))
        (pss_one (ps_set (i := 2) sc_steps_on.nd rfl (Or.inl rfl) (pe_op op_add (pv 2) (pv 4))))
        (pss_one (ps_if (pt_cmpR op_eq (pv 3) pe_str (nomark _))
          (pss_one (ps_set (i := 2) sc_steps_on.nd rfl (Or.inl rfl) (pe_op op_mulW (pv 2) (pv 4))))
          (pss_one (ps_if (pt_cmpR op_eq (pv 3) pe_str (nomark _))
            (pss_one (ps_set (i := 2) sc_steps_on.nd rfl (Or.inl rfl) (pe_op op_fdivZ (pv 2) (pv 4))))
            (pss_one (ps_set (i := 2) sc_steps_on.nd rfl (Or.inl rfl) (pe_call G_goal_of (hr.mono (by first | decide | omega)) rfl D_goal_of.mg D_goal_of.fn.kp D_goal_of.bd .nil (L2.passes_call (L2.takes_of rfl rfl rfl rfl) (fun _ _ _ _ h => h)) (pa_cons (pv 4) (pa_cons (pv 2) pa_nil))))))))))))))
  (pss_one (ps_ret (pv 2))))), ?_⟩
    refine ⟨_, rfl, ?_⟩
    refine ⟨_, rfl, a, rfl, ⟨_, ha⟩, for_tup (xs := ws) (fun i σ H' => ∃ (m : Int) (x3 x4 : Option V), σ = [some (.ref a), some (.int n), some (.int m), x3, x4] ∧
      H' = H ∧ leadAll (ss.take i) n = some m ∧ m.natAbs < 2 ^ (200 + 41 * i)) ?_ (fun i σ H' _ ⟨_, _, _, _, e, _⟩ => by rw [e]; exact ha) ?_ ?_⟩
    · exact ⟨n, none, none, rfl, rfl, rfl, by simpa using hn⟩
    · rintro i v σ H' hi ⟨m, x3, x4, rfl, eH, hm, hb⟩
      have eH := eH.symm
      subst eH
      obtain ⟨s, hs, hv⟩ := Gx.paired_get hst hi
      have hos := ho s (List.mem_of_getElem? hs)
      have il : i < ss.length := (List.getElem?_eq_some_iff.mp hs).1
      have b2 : m.natAbs < 2 ^ 2000 := Nat.lt_of_lt_of_le hb (Nat.pow_le_pow_right (by decide) (by omega))
      have more : ∀ m', lead s m = some m' → leadAll (ss.take (i + 1)) n = some m' ∧ m'.natAbs < 2 ^ (200 + 41 * (i + 1)) := fun m' e => by
        refine ⟨?_, lead_big hos hb e⟩
        rw [take_snoc hs, leadAll_app, hm]
        show (match lead s m with | some q => leadAll [] q | none => none) = _
        rw [e]; rfl
      have less : lead s m = none → Wish C E H m := fun e => by
        refine ke m ?_
        rw [take_cons hs, erred_app _ _ n m hm]
        show (match lead s m with | some q => erredAt _ q | none => some m) = _
        rw [e]
      cases s with
      | plus k =>
        obtain ⟨b, rfl, ht⟩ := hv
        refine ⟨b, _, rfl, ht, rfl, _, _, rfl, _, _, rfl, rfl, ?_⟩
        refine ⟨_, rfl, rfl, _, rfl, if_f (by decide +kernel) ?_⟩
        refine ⟨_, rfl, rfl, _, rfl, if_t (by decide +kernel) ⟨_, rfl, _, rfl, m, k, rfl, rfl, _, _, _, rfl, rfl, more _ rfl⟩⟩
      | times k =>
        obtain ⟨b, rfl, ht⟩ := hv
        refine ⟨b, _, rfl, ht, rfl, _, _, rfl, _, _, rfl, rfl, ?_⟩
        refine ⟨_, rfl, rfl, _, rfl, if_f (by decide +kernel) ?_⟩
        refine ⟨_, rfl, rfl, _, rfl, if_f (by decide +kernel) ?_⟩
        refine ⟨_, rfl, rfl, _, rfl, if_t (by decide +kernel) ⟨_, rfl, _, rfl, m, k, rfl, rfl, ?_, _, _, _, rfl, rfl, more _ rfl⟩⟩
        have h1 := lg b2
        have h2 := lg (bitsK hos.1)
        show m.natAbs.log2 + k.natAbs.log2 < 1000000
        omega
      | into k =>
        obtain ⟨b, rfl, ht⟩ := hv
        refine ⟨b, _, rfl, ht, rfl, _, _, rfl, _, _, rfl, rfl, ?_⟩
        refine ⟨_, rfl, rfl, _, rfl, if_f (by decide +kernel) ?_⟩
        refine ⟨_, rfl, rfl, _, rfl, if_f (by decide +kernel) ?_⟩
        refine ⟨_, rfl, rfl, _, rfl, if_f (by decide +kernel) ?_⟩
        have k0 : k ≠ 0 := by have := hos.1; omega
        have kn : Near k := ⟨by have := hos.1; omega, hos.2⟩
        refine ⟨_, rfl, rfl, _, rfl, if_t (by decide +kernel) ⟨_, rfl, _, rfl, m, k, rfl, rfl, divz k0 (bitsK kn), _, _, _, rfl, rfl, more _ rfl⟩⟩
      | over k =>
        obtain ⟨b, rfl, ht⟩ := hv
        refine ⟨b, _, rfl, ht, rfl, _, _, rfl, _, _, rfl, rfl, ?_⟩
        refine ⟨_, rfl, rfl, _, rfl, if_t (by decide +kernel) ?_⟩
        refine ⟨_, rfl, rfl, _, rfl, if_d (fun h0 => ?_) (fun h0 => ?_)⟩
        · have h0 := V.int.inj h0
          exact raise_read (v := .int m) (H1 := H) (fun Q q => ⟨_, rfl, q⟩) (fun d H' ex hd => less (if_pos h0) d H' ex hd)
        · have n0 : m ≠ 0 := fun e => h0 (by rw [e])
          refine ⟨_, rfl, _, rfl, k, m, rfl, rfl, divz n0 b2, _, _, _, rfl, rfl, more _ ?_⟩
          show (if m = 0 then none else some (k.fdiv m)) = _
          rw [if_neg n0]
      | found ps =>
        obtain ⟨b, c, as, rfl, ht, hx, hp⟩ := hv
        refine ⟨b, _, rfl, ht, rfl, _, _, rfl, _, _, rfl, rfl, ?_⟩
        refine ⟨_, rfl, rfl, _, rfl, if_f (by decide +kernel) ?_⟩
        refine ⟨_, rfl, rfl, _, rfl, if_f (by decide +kernel) ?_⟩
        refine ⟨_, rfl, rfl, _, rfl, if_f (by decide +kernel) ?_⟩
        refine ⟨_, rfl, rfl, _, rfl, if_f (by decide +kernel) ?_⟩
        exact ⟨_, rfl, _, rfl, c, as, ps, m, rfl, hx.sq, hp, fun m' e => ⟨_, _, _, rfl, rfl, more m' e⟩, fun e d H' ex hd => less e d H' ex hd⟩
    · rintro σ H' ⟨m, x3, x4, rfl, eH, hm, hb⟩
      have eH := eH.symm
      subst eH
      rw [Paired.length hst, List.take_length] at hm
      exact ⟨_, rfl, kq m hm⟩
theorem ok_step_on {f : Addr} {fd : FuncData} (D : Def K mg "step_on" s_step_on f fd ["step", "number"]) (bi : Bi mg)
    {f_steps_on : Addr} {fd_steps_on : FuncData} (D_steps_on : Def K mg "steps_on" s_steps_on f_steps_on fd_steps_on ["steps", "number"])
    (G_steps_on : FnOk P w K mg base (L2.CX P w) 4 f_steps_on fd_steps_on ["steps", "number"] (spStepsOn K C)) :
    FnOk P w K mg base (L2.CX P w) 5 f fd ["step", "number"] (spStepOn K C) := by
  refine D.fn.okX sc_step_on (fun vs H Q E h => ?_) (fun cdv A outer s0 H vs Q E hr h => ?_)
  · obtain ⟨v, s, n, rfl, _⟩ := h
    rfl
  · obtain ⟨v, s, n, rfl, hs, ho, hn, kq, ke⟩ := h
    refine ⟨_, (pss_one (ps_ret (pe_call G_steps_on (hr.mono (by first | decide | omega)) rfl D_steps_on.mg D_steps_on.fn.kp D_steps_on.bd .nil (L2.passes_call (L2.takes_of rfl rfl rfl rfl) (fun _ _ _ _ h => h)) (pa_cons (pe_tup (pa_cons (pv 0) pa_nil)) (pa_cons (pv 1) pa_nil))))), ?_⟩
    refine ⟨_, rfl, sz1, fun p np => ?_⟩
    have e1 : leadAll [s] n = lead s n := by
      show (match lead s n with | some q => leadAll [] q | none => none) = _
      cases lead s n <;> rfl
    have e2 : lead s n = none → erredAt [s] n = some n := fun h => by
      show (match lead s n with | some q => erredAt [] q | none => some n) = _
      rw [h]
    have e3 : ∀ m, erredAt [s] n = some m → lead s n = none ∧ m = n := fun m h => by
      have h : (match lead s n with | some q => erredAt [] q | none => some n) = some m := h
      cases e : lead s n with
      | none => rw [e] at h; exact ⟨rfl, (Option.some.inj h).symm⟩
      | some q => rw [e] at h; cases h
    have x := Ex.new (o := .tup [v]) np
    refine ⟨_, rfl, p, [v], [s], n, rfl, SqT.of upd_same, .cons (hs.to x) .nil, fun t ht => ?_, Nat.le_of_ble_eq_true rfl, hn, fun m h => kq m (e1.symm.trans h) _ x, fun m h d H' ex hd => ?_⟩
    · rw [List.mem_singleton.mp ht]; exact ho
    · obtain ⟨h1, rfl⟩ := e3 m h
      exact ke h1 d H' (x.trans ex) hd
end
end K17

set_option Elab.async false
set_option linter.all false
set_option maxRecDepth 100000
set_option maxHeartbeats 4000000
namespace K17
open PySem PySem.Spec PyProof.Rows L2 Evl Gx
abbrev s_l_led : Stmt := topS 14
theorem sc_l_led : FnScope ["_law_steps", "_law_number_here", "_law_word", "_law_k", "_law_known"] ["_law_steps", "_law_number_here"] (defScope s_l_led) := ⟨rfl, rfl, rfl, by decide +kernel, rfl, by decide +kernel, by decide +kernel⟩
abbrev s_l_alike : Stmt := topS 10
theorem sc_l_alike : FnScope ["_law_found", "_law_due"] ["_law_found", "_law_due"] (defScope s_l_alike) := ⟨rfl, rfl, rfl, by decide +kernel, rfl, by decide +kernel, by decide +kernel⟩
def optV : Option Int → V
  | some m => .int m
  | none => .non
def spLed (K : PySem.W.Frag) : Sp := fun vs H Q _ => ∃ (a : Addr) (ws : List V) (ss : List Stp) (n : Int), vs = [.ref a, .int n] ∧
  SqT K H a ws ∧ StpsAt K H ws ss ∧ (∀ s ∈ ss, Stp.ok s) ∧ ss.length ≤ 10 ∧ n.natAbs < 2 ^ 1000 ∧ ∀ H', Ex H H' → Q (optV (leadAll ss n)) H'
def spAlike (K : PySem.W.Frag) : Sp := fun vs H Q _ => ∃ (x y : V) (d : PyData), vs = [x, y] ∧ Dp K H x d ∧ Dp K H y d ∧
  SeqAt.shaped d = true ∧ d.showable = true ∧ wide d ≤ 10000000 ∧ Q (.bl true) H
theorem dict_look {ps : List (Int × Int)} (nd : (ps.map (·.1)).Nodup) (n : Int) :
    valV (mergeK [] (ps.map fun p => ((Sum.inl p.1 : Key), V.int p.2))) (Sum.inl n) = (look ps n).map V.int := by
  rw [valV_merge _ _ _ (fun _ _ => rfl)]
  · have e : ∀ ps : List (Int × Int), valV (ps.map fun p => ((Sum.inl p.1 : Key), V.int p.2)) (Sum.inl n) = (look ps n).map V.int := by
      intro ps
      induction ps with
      | nil => rfl
      | cons p r ih =>
        by_cases h : p.1 = n
        · rw [List.map_cons, valV_pos (by rw [h])]
          have e2 : look (p :: r) n = some p.2 := by unfold look; rw [List.find?_cons, decide_eq_true h]; rfl
          rw [e2]; rfl
        · rw [List.map_cons, valV_neg (fun z => h (Sum.inl.inj z)), ih]
          have e2 : look (p :: r) n = look r n := by unfold look; rw [List.find?_cons, decide_eq_false h]
          rw [e2]
    rw [e]
    cases look ps n <;> rfl
  · have e : (ps.map fun p => ((Sum.inl p.1 : Key), V.int p.2)).map (·.1) = (ps.map (·.1)).map Sum.inl := by simp
    rw [e]
    exact nd.map _ (fun a b h h2 => h (Sum.inl.inj h2))
section
variable {P : Program} {w : World} {K : PySem.W.Frag} {mg : Str → Option Value} {base : Heap} {C fI : Addr} {fdI : FuncData}
theorem ok_alike {f : Addr} {fd : FuncData} (D : Def K mg "_law_alike" s_l_alike f fd ["_law_found", "_law_due"]) (bi : Bi mg) :
    FnQ P w K mg base CX0 1 f fd ["_law_found", "_law_due"] (spAlike K) := by
  refine fnq_ok D.fn sc_l_alike (fun vs H Q E h => ?_) (fun cdv A outer s0 H vs Q E hr qu h => ?_)
  · obtain ⟨x, y, d, rfl, _⟩ := h
    rfl
  · obtain ⟨x, y, d, rfl, hx, hy, h1, h2, h3, k⟩ := h
    have hu64 := hr.units
    have hu2 : (A.deeper (envOfC "_law_alike" (defScope s_l_alike) s0.heap.objs.size f cdv)).units + 200 < cLine := by have := hr.un; omega
    refine ⟨_, (pss_one (ps_ret (pe_and (pe_cmpR (op_eqD hu64) (pv 0) (pv 1) (nomark _)) (pe_one (pe_cmpR op_eq (pe_callB (call_repD qu hu2) (by rfl) bi.repr bt_repr (pa_cons (pv 0) pa_nil)) (pe_callB (call_repD qu hu2) (by rfl) bi.repr bt_repr (pa_cons (pv 1) pa_nil)) (nomark _)))))), ?_⟩
    have dd : d.hasDict = false := PyData.hasDict_of_canLay d (SeqAt.canLay_of_shaped h1)
    have dp : d.depth ≤ 100 := Nat.le_trans (SeqAt.depth_of_shaped h1) (by decide)
    refine ⟨_, rfl, _, rfl, d, d, hx, hy, h1, h1, _, rfl, ?_⟩
    rw [SeqAt.eqv_refl d (SeqAt.canLay_of_shaped h1)]
    refine iteT ⟨_, rfl, x, d, rfl, hx, h2, dd, dp, h3, _, rfl, y, d, rfl, hy, h2, dd, dp, h3, rfl, ?_⟩
    rw [decide_eq_true rfl]
    exact k
theorem ok_led {f : Addr} {fd : FuncData} (D : Def K mg "_law_led" s_l_led f fd ["_law_steps", "_law_number_here"]) (bi : Bi mg) :
    FnOk P w K mg base CX0 1 f fd ["_law_steps", "_law_number_here"] (spLed K) := by
  refine D.fn.ok sc_l_led (fun vs H Q E h => ?_) (fun cdv A outer s0 H vs Q E hr h => ?_)
  · obtain ⟨a, ws, ss, n, rfl, _⟩ := h
    rfl
  · obtain ⟨a, ws, ss, n, rfl, ha, hst, ho, hl, hn, k⟩ := h
    have hu := hu_of hr
    refine ⟨_, (pss_cons (ps_for PassesOwn.never rfl (pi_tup (pv 0)) (pg_tup rfl (pgs_cons (pg_name (i := 2) sc_l_led.nd rfl (Or.inl rfl)) (pgs_cons (pg_name (i := 3) sc_l_led.nd rfl (Or.inl rfl)) pgs_nil)))
    (pss_one (ps_if (pt_cmpR op_eq (pv 2) pe_str (nomark _))
      (pss_one (ps_set (i := 1) sc_l_led.nd rfl (Or.inl rfl) (pe_op op_add (pv 1) (pv 3))))
      (pss_one (ps_if (pt_cmpR op_eq (pv 2) pe_str (nomark _))
        (pss_one (ps_set (i := 1) sc_l_led.nd rfl (Or.inl rfl) (pe_op op_mulW (pv 1) (pv 3))))
        (pss_one (ps_if (pt_cmpR op_eq (pv 2) pe_str (nomark _))
          (pss_one (ps_set (i := 1) sc_l_led.nd rfl (Or.inl rfl) (pe_op op_fdivZ (pv 1) (pv 3))))
          (pss_one (ps_if (pt_cmpR op_eq (pv 2) pe_str (nomark _))
            (pss_cons (ps_if (pt_cmpR op_eq (pv 1) pe_int (nomark _))
              (pss_one (ps_ret pe_non))
              pss_nil)
            (pss_one (ps_set (i := 1) sc_l_led.nd rfl (Or.inl rfl) (pe_op op_fdivZ (pv 3) (pv 1)))))
            (pss_cons (ps_set (i := 4) sc_l_led.nd rfl (Or.inl rfl) (pe_callTy (call_dictT rfl) (by rfl) bi.dict bt_dict (pa_cons (pv 3) pa_nil)))
            (pss_cons (ps_if (pt_cmp (pc_dnotin hu (pv 1) (pv 4)))
              (pss_one (ps_ret pe_non))
              pss_nil)
            (pss_one (ps_set (i := 1) sc_l_led.nd rfl (Or.inl rfl) (pe_dget hu (pv 4) (pv 1) (fun _ _ => rfl)))))))))))))))
  (pss_one (ps_ret (pv 1)))), ?_⟩
    refine ⟨_, rfl, a, rfl, ⟨_, ha⟩, for_tup (xs := ws) (fun i σ H' => ∃ (m : Int) (x2 x3 x4 : Option V), σ = [some (.ref a), some (.int m), x2, x3, x4] ∧
      Ex H H' ∧ leadAll (ss.take i) n = some m ∧ m.natAbs < 2 ^ (1000 + 41 * i)) ?_ (fun i σ H' _ ⟨_, _, _, _, _, e, _⟩ => ex_t e ha) ?_ ?_⟩
    · exact ⟨n, none, none, none, rfl, Ex.refl H, rfl, by simpa using hn⟩
    · rintro i v σ H1 hi ⟨m, x2, x3, x4, rfl, e1, hm, hb⟩
      obtain ⟨s, hs, hv⟩ := Gx.paired_get hst hi
      have hos := ho s (List.mem_of_getElem? hs)
      have il : i < ss.length := (List.getElem?_eq_some_iff.mp hs).1
      have b2 : m.natAbs < 2 ^ 2000 := Nat.lt_of_lt_of_le hb (Nat.pow_le_pow_right (by decide) (by omega))
      have hv := hv.to e1
      have more : ∀ m', lead s m = some m' → leadAll (ss.take (i + 1)) n = some m' ∧ m'.natAbs < 2 ^ (1000 + 41 * (i + 1)) := fun m' e => by
        refine ⟨?_, lead_big hos hb e⟩
        rw [take_snoc hs, leadAll_app, hm]
        show (match lead s m with | some q => leadAll [] q | none => none) = _
        rw [e]; rfl
      have stop : lead s m = none → leadAll ss n = none := fun e => by
        rw [take_cons hs, leadAll_app, hm]
        show (match lead s m with | some q => leadAll _ q | none => none) = _
        rw [e]
      cases s with
      | plus q =>
        obtain ⟨t, rfl, ht⟩ := hv
        refine ⟨t, _, rfl, ht, rfl, _, _, rfl, _, _, rfl, rfl, ?_⟩
        refine ⟨_, rfl, rfl, _, rfl, if_t (by decide +kernel) ⟨_, rfl, _, rfl, m, q, rfl, rfl, ?_⟩⟩
        obtain ⟨g1, g2⟩ := more (m + q) rfl
        exact ⟨m + q, _, _, _, rfl, e1, g1, g2⟩
      | times q =>
        obtain ⟨t, rfl, ht⟩ := hv
        refine ⟨t, _, rfl, ht, rfl, _, _, rfl, _, _, rfl, rfl, ?_⟩
        refine ⟨_, rfl, rfl, _, rfl, if_f (by decide +kernel) ?_⟩
        refine ⟨_, rfl, rfl, _, rfl, if_t (by decide +kernel) ⟨_, rfl, _, rfl, m, q, rfl, rfl, ?_, ?_⟩⟩
        · have h1 := lg b2
          have h2 := lg (bitsK hos.1)
          show m.natAbs.log2 + q.natAbs.log2 < 1000000
          omega
        · obtain ⟨g1, g2⟩ := more (m * q) rfl
          exact ⟨m * q, _, _, _, rfl, e1, g1, g2⟩
      | into q =>
        obtain ⟨t, rfl, ht⟩ := hv
        have k0 : q ≠ 0 := by have := hos.1; omega
        have kn : Near q := ⟨by have := hos.1; omega, hos.2⟩
        refine ⟨t, _, rfl, ht, rfl, _, _, rfl, _, _, rfl, rfl, ?_⟩
        refine ⟨_, rfl, rfl, _, rfl, if_f (by decide +kernel) ?_⟩
        refine ⟨_, rfl, rfl, _, rfl, if_f (by decide +kernel) ?_⟩
        refine ⟨_, rfl, rfl, _, rfl, if_t (by decide +kernel) ⟨_, rfl, _, rfl, m, q, rfl, rfl, divz k0 (bitsK kn), ?_⟩⟩
        obtain ⟨g1, g2⟩ := more (m.fdiv q) rfl
        exact ⟨m.fdiv q, _, _, _, rfl, e1, g1, g2⟩
      | over q =>
        obtain ⟨t, rfl, ht⟩ := hv
        refine ⟨t, _, rfl, ht, rfl, _, _, rfl, _, _, rfl, rfl, ?_⟩
        refine ⟨_, rfl, rfl, _, rfl, if_f (by decide +kernel) ?_⟩
        refine ⟨_, rfl, rfl, _, rfl, if_f (by decide +kernel) ?_⟩
        refine ⟨_, rfl, rfl, _, rfl, if_f (by decide +kernel) ?_⟩
        refine ⟨_, rfl, rfl, _, rfl, if_t (by decide +kernel) ?_⟩
        refine ⟨_, rfl, rfl, _, rfl, if_d (fun h0 => ?_) (fun h0 => ?_)⟩
        · have := k H1 e1
          rw [stop (if_pos (V.int.inj h0))] at this
          exact this
        · have n0 : m ≠ 0 := fun e => h0 (by rw [e])
          refine ⟨_, rfl, _, rfl, q, m, rfl, rfl, divz n0 b2, ?_⟩
          obtain ⟨g1, g2⟩ := more (q.fdiv m) (if_neg n0)
          exact ⟨q.fdiv m, _, _, _, rfl, e1, g1, g2⟩
      | found ps =>
        obtain ⟨t, c, as, rfl, ht, hx, hp⟩ := hv
        refine ⟨t, _, rfl, ht, rfl, _, _, rfl, _, _, rfl, rfl, ?_⟩
        refine ⟨_, rfl, rfl, _, rfl, if_f (by decide +kernel) ?_⟩
        refine ⟨_, rfl, rfl, _, rfl, if_f (by decide +kernel) ?_⟩
        refine ⟨_, rfl, rfl, _, rfl, if_f (by decide +kernel) ?_⟩
        refine ⟨_, rfl, rfl, _, rfl, if_f (by decide +kernel) ?_⟩
        have hp2 : ∀ {as : List Addr} {ps : List (Int × Int)}, Paired (Gx.PairAt K H1) as ps →
            Paired (fun p kv => SqT K H1 p [kV kv.1, kv.2]) as (ps.map fun p => ((Sum.inl p.1 : Key), V.int p.2)) := by
          intro as ps h
          induction h with
          | nil => exact .nil
          | cons h _ ih => exact .cons h ih
        refine ⟨_, rfl, c, as, _, rfl, hx, hp2 hp, fun d hd => ?_⟩
        have e2 := e1.trans (Ex.new (o := .dK (mergeK [] (ps.map fun p => ((Sum.inl p.1 : Key), V.int p.2)))) hd)
        refine ⟨_, rfl, _, rfl, d, _, rfl, DGet.k (k := Sum.inl m) upd_same, _, rfl, ?_⟩
        rw [dict_look hos.1 m]
        cases hk : look ps m with
        | none =>
          refine iteT ?_
          have := k _ e2
          rw [stop hk] at this
          exact this
        | some g =>
          refine iteF ⟨_, rfl, _, rfl, d, .int g, rfl, ?_, ?_⟩
          · have z := DGet.k (k := Sum.inl m) (upd_same (H := H1) (a := d) (o := .dK (mergeK [] (ps.map fun p => ((Sum.inl p.1 : Key), V.int p.2)))))
            rw [dict_look hos.1 m, hk] at z
            exact z
          · obtain ⟨g1, g2⟩ := more g hk
            exact ⟨g, _, _, _, rfl, e2, g1, g2⟩
    · rintro σ H1 ⟨m, x2, x3, x4, rfl, e1, hm, hb⟩
      rw [Paired.length hst, List.take_length] at hm
      have := k H1 e1
      rw [hm] at this
      exact ⟨_, rfl, this⟩
end
end K17

set_option Elab.async false
set_option linter.all false
set_option maxRecDepth 100000
set_option maxHeartbeats 4000000
set_option exponentiation.threshold 3000
namespace K17
open PySem PySem.Spec PyProof.Rows L2 Evl Gx
abbrev s_l_erred : Stmt := topS 16
theorem sc_l_erred : FnScope ["_law_steps", "_law_number_here", "_law_at", "_law_step_here"] ["_law_steps", "_law_number_here"] (defScope s_l_erred) := ⟨rfl, rfl, rfl, by decide +kernel, rfl, by decide +kernel, by decide +kernel⟩
abbrev s_l_heard : Stmt := topS 17
theorem sc_l_heard : FnScope ["_law_way", "_law_steps", "_law_number_here", "e"] ["_law_way", "_law_steps", "_law_number_here"] (defScope s_l_heard) := ⟨rfl, rfl, rfl, by decide +kernel, rfl, by decide +kernel, by decide +kernel⟩
def spErred (K : PySem.W.Frag) : Sp := fun vs H Q _ => ∃ (a : Addr) (ws : List V) (ss : List Stp) (n : Int), vs = [.ref a, .int n] ∧
  SqT K H a ws ∧ StpsAt K H ws ss ∧ (∀ s ∈ ss, Stp.ok s) ∧ ss.length ≤ 10 ∧ n.natAbs < 2 ^ 200 ∧ ∀ H', Ex H H' → Q (optV (erredAt ss n)) H'
/-- what is heard: told, or errs -/
def heardV (ss : List Stp) (n : Int) : Str × Int := match leadAll ss n with
  | some m => ("told", m)
  | none => ("errs", (erredAt ss n).getD 0)
def spHeard (K : PySem.W.Frag) : Sp := fun vs H Q _ => ∃ (way : Int) (a : Addr) (ws : List V) (ss : List Stp) (n : Int), vs = [.int way, .ref a, .int n] ∧
  SqT K H a ws ∧ StpsAt K H ws ss ∧ (∀ s ∈ ss, Stp.ok s) ∧ ss.length ≤ 10 ∧ n.natAbs < 2 ^ 200 ∧ (way = 0 → ∃ s, ss = [s]) ∧
  ∀ t H', Ex H H' → SqT K H' t [.str (heardV ss n).1, .int (heardV ss n).2] → Q (.ref t) H'
theorem lead_one (s : Stp) (n : Int) : leadAll [s] n = lead s n := by
  show (match lead s n with | some q => leadAll [] q | none => none) = _
  cases lead s n <;> rfl
theorem err_one {s : Stp} {n : Int} (h : lead s n = none) : erredAt [s] n = some n := by
  show (match lead s n with | some q => erredAt [] q | none => some n) = _
  rw [h]
section
variable {P : Program} {w : World} {K : PySem.W.Frag} {mg : Str → Option Value} {base : Heap} {C fI : Addr} {fdI : FuncData}
theorem ok_erred {f : Addr} {fd : FuncData} (D : Def K mg "_law_erred" s_l_erred f fd ["_law_steps", "_law_number_here"]) (bi : Bi mg)
    {f_l_led : Addr} {fd_l_led : FuncData} (D_l_led : Def K mg "_law_led" s_l_led f_l_led fd_l_led ["_law_steps", "_law_number_here"])
    (G_l_led : FnOk P w K mg base CX0 1 f_l_led fd_l_led ["_law_steps", "_law_number_here"] (spLed K)) :
    FnOk P w K mg base CX0 2 f fd ["_law_steps", "_law_number_here"] (spErred K) := by
  refine D.fn.ok sc_l_erred (fun vs H Q E h => ?_) (fun cdv A outer s0 H vs Q E hr h => ?_)
  · obtain ⟨a, ws, ss, n, rfl, _⟩ := h
    rfl
  · obtain ⟨a, ws, ss, n, rfl, ha, hst, ho, hl, hn, k⟩ := h
    refine ⟨_, (pss_cons (ps_for PassesOwn.never rfl (pi_enumT rfl bi.enumerate (pa_cons (pv 0) pa_nil)) (pg_tup rfl (pgs_cons (pg_name (i := 2) sc_l_erred.nd rfl (Or.inl rfl)) (pgs_cons (pg_name (i := 3) sc_l_erred.nd rfl (Or.inl rfl)) pgs_nil)))
    (pss_cons (ps_if (pt_cmpR op_isN (pe_call G_l_led (hr.mono (by first | decide | omega)) rfl D_l_led.mg D_l_led.fn.kp D_l_led.bd .nil pass0 (pa_cons (pe_tup (pa_cons (pv 3) pa_nil)) (pa_cons (pv 1) pa_nil))) pe_non (nomark _))
      (pss_one (ps_ret (pv 1)))
      pss_nil)
    (pss_one (ps_set (i := 1) sc_l_erred.nd rfl (Or.inl rfl) (pe_call G_l_led (hr.mono (by first | decide | omega)) rfl D_l_led.mg D_l_led.fn.kp D_l_led.bd .nil pass0 (pa_cons (pe_tup (pa_cons (pv 3) pa_nil)) (pa_cons (pv 1) pa_nil)))))))
  (pss_one (ps_ret pe_non))), ?_⟩
    refine ⟨_, rfl, a, ws, rfl, ha, for_enumT (xs := ws) (fun i σ H' => ∃ (m : Int) (x2 x3 : Option V), σ = [some (.ref a), some (.int m), x2, x3] ∧
      Ex H H' ∧ leadAll (ss.take i) n = some m ∧ m.natAbs < 2 ^ (200 + 41 * i)) ?_ (fun i σ H' _ ⟨_, _, _, _, e, _⟩ => ex_t e ha) ?_ ?_⟩
    · exact ⟨n, none, none, rfl, Ex.refl H, rfl, by simpa using hn⟩
    · rintro i v T σ H1 hi ⟨m, x2, x3, rfl, e1, hm, hb⟩ nT
      obtain ⟨s, hs, hv⟩ := Gx.paired_get hst hi
      have hos := ho s (List.mem_of_getElem? hs)
      have il : i < ss.length := (List.getElem?_eq_some_iff.mp hs).1
      have b2 : m.natAbs < 2 ^ 1000 := Nat.lt_of_lt_of_le hb (Nat.pow_le_pow_right (by decide) (by omega))
      have e2 := e1.trans (Ex.new (o := .tup [.int (i : Nat), v]) nT)
      have hv2 := hv.to e2
      have tq : SqT K (upd H1 T (.tup [.int (i : Nat), v])) T [.int (i : Nat), v] := SqT.of upd_same
      generalize upd H1 T (.tup [.int (i : Nat), v]) = H2 at e2 hv2 tq ⊢
      refine ⟨T, _, rfl, tq, rfl, _, _, rfl, _, _, rfl, rfl, ?_⟩
      have ok1 : ∀ z ∈ [s], Stp.ok z := fun z hz => by rw [List.mem_singleton] at hz; rw [hz]; exact hos
      refine ⟨_, rfl, sz1, fun t nt => ⟨_, rfl, t, [v], [s], m, rfl, SqT.of upd_same, .cons (hv2.to (Ex.new nt)) .nil, ok1, by show 1 ≤ 10; decide, b2, fun H3 e3 => ?_⟩⟩
      have e4 : Ex H H3 := (e2.trans (Ex.new nt)).trans e3
      refine ⟨rfl, _, rfl, ?_⟩
      rw [lead_one]
      cases hlead : lead s m with
      | none =>
        refine if_t (by rfl) ⟨_, rfl, ?_⟩
        have z := k H3 e4
        rw [take_cons hs, erred_app _ _ n m hm] at z
        have e5 : erredAt (s :: ss.drop (i + 1)) m = some m := by
          show (match lead s m with | some q => erredAt _ q | none => some m) = _
          rw [hlead]
        rw [e5] at z
        exact z
      | some q =>
        refine if_f (by simp [optV]) ?_
        have hv3 := hv.to e4
        refine ⟨_, rfl, sz1, fun t2 nt2 => ⟨_, rfl, t2, [v], [s], m, rfl, SqT.of upd_same, .cons (hv3.to (Ex.new nt2)) .nil, ok1, by show 1 ≤ 10; decide, b2, fun H5 e5 => ?_⟩⟩
        rw [lead_one, hlead]
        refine ⟨q, _, _, rfl, (e4.trans (Ex.new nt2)).trans e5, ?_, lead_big hos hb hlead⟩
        rw [take_snoc hs, leadAll_app, hm]
        show (match lead s m with | some q => leadAll [] q | none => none) = _
        rw [hlead]; rfl
    · rintro σ H1 ⟨m, x2, x3, rfl, e1, hm, hb⟩
      rw [Paired.length hst, List.take_length] at hm
      have z := k H1 e1
      rw [leadAll_some hm] at z
      exact z
theorem ok_heard {f : Addr} {fd : FuncData} (D : Def K mg "_law_heard" s_l_heard f fd ["_law_way", "_law_steps", "_law_number_here"]) (bi : Bi mg)
    (e_Errs : Err K mg "Errs" "Errs.__init__" "number" ["self", "number"] s_Errs___init C fI fdI)
    {f_step_on : Addr} {fd_step_on : FuncData} (D_step_on : Def K mg "step_on" s_step_on f_step_on fd_step_on ["step", "number"])
    (G_step_on : FnOk P w K mg base (L2.CX P w) 5 f_step_on fd_step_on ["step", "number"] (spStepOn K C))
    {f_steps_on : Addr} {fd_steps_on : FuncData} (D_steps_on : Def K mg "steps_on" s_steps_on f_steps_on fd_steps_on ["steps", "number"])
    (G_steps_on : FnOk P w K mg base (L2.CX P w) 4 f_steps_on fd_steps_on ["steps", "number"] (spStepsOn K C)) :
    FnOk P w K mg base CX0 6 f fd ["_law_way", "_law_steps", "_law_number_here"] (spHeard K) := by
  refine D.fn.ok sc_l_heard (fun vs H Q E h => ?_) (fun cdv A outer s0 H vs Q E hr h => ?_)
  · obtain ⟨way, a, ws, ss, n, rfl, _⟩ := h
    rfl
  · obtain ⟨way, a, ws, ss, n, rfl, ha, hst, ho, hl, hn, hw, k⟩ := h
    refine ⟨_, (pss_one (ps_try_fst (ts := _) rfl rfl sc_l_heard.nd (i := 3) rfl rfl ⟨rfl, by decide, .inl e_Errs.gC⟩ (fun W pn xe tk _ =>
    (pss_one (ps_ret (pe_tup (pa_cons pe_str (pa_cons (pe_ifExp (pt_cmpR op_eq (pv 0) pe_int (nomark _)) (pe_callS G_step_on (hr.mono (by first | decide | omega)) rfl D_step_on.mg D_step_on.fn.kp D_step_on.bd (fun σ => passAt tk σ) (pa_cons (pe_ix (ix_tupK (K := K) rfl) (pv 1) pe_int (fun _ _ => rfl)) (pa_cons (pv 2) pa_nil))) (pe_callS G_steps_on (hr.mono (by first | decide | omega)) rfl D_steps_on.mg D_steps_on.fn.kp D_steps_on.bd (fun σ => passAt tk σ) (pa_cons (pv 1) (pa_cons (pv 2) pa_nil)))) pa_nil)))))) (fun a oe cls d pn hz hf =>
    (pss_one (ps_ret (pe_tup (pa_cons pe_str (pa_cons (pe_xf e_Errs.xf e_Errs.no hz hf (pv 3)) pa_nil)))))))), ?_⟩
    -- told
    have told : ∀ m, leadAll ss n = some m → ∀ H1, Ex H H1 → ∀ t, H1 t = none → Q (.ref t) (upd H1 t (.tup [.str "told", .int m])) := fun m hm H1 x1 t nt => by
      refine k t _ (x1.trans (Ex.new nt)) ?_
      have e : heardV ss n = (("told" : Str), m) := by unfold heardV; rw [hm]
      rw [e]
      exact SqT.of upd_same
    have errs : ∀ m, leadAll ss n = none → erredAt ss n = some m → ∀ H' t, Ex H H' → H' t = none → Q (.ref t) (upd H' t (.tup [.str "errs", .int m])) := fun m h1 h2 H' t ex nt => by
      refine k t _ (ex_upd ex nt) ?_
      have e : heardV ss n = (("errs" : Str), m) := by unfold heardV; rw [h1, h2]; rfl
      rw [e]
      exact SqT.of upd_same
    refine ⟨_, rfl, rfl, _, rfl, if_d (fun h0 => ?_) (fun h0 => ?_)⟩
    · obtain ⟨s, rfl⟩ := hw (V.int.inj h0)
      cases hst with
      | cons hv hn' =>
        cases hn'
        rename_i v
        have hos := ho s (List.mem_singleton.mpr rfl)
        refine ⟨_, rfl, a, _, 0, v, rfl, rfl, ha, rfl, _, rfl, v, s, n, rfl, hv, hos,
          hn, fun m hm H1 x1 => ⟨sz2, fun t nt => ?_⟩, fun hm d H' ex hd => ⟨e_Errs.te, fun x nx => ?_⟩⟩
        · exact told m (by rw [lead_one]; exact hm) H1 x1 t nt
        · refine field_read (fun Q q => ⟨_, rfl, q⟩) hd ⟨sz2, fun t nt => ?_⟩
          exact errs n (by rw [lead_one]; exact hm) (err_one hm) H' t ex nt
    · refine ⟨_, rfl, _, rfl, a, ws, ss, n, rfl, ha, hst, ho, hl, hn, fun m hm => ⟨sz2, fun t nt => told m hm H (Ex.refl H) t nt⟩, fun m hm d H' ex hd => ⟨e_Errs.te, fun x nx => ?_⟩⟩
      refine field_read (fun Q q => ⟨_, rfl, q⟩) hd ⟨sz2, fun t nt => ?_⟩
      refine errs m ?_ hm H' t ex nt
      cases e : leadAll ss n with
      | none => rfl
      | some q => rw [leadAll_some e] at hm; cases hm
end
end K17

set_option Elab.async false
set_option linter.all false
set_option maxRecDepth 100000
set_option maxHeartbeats 8000000
set_option exponentiation.threshold 3000
namespace K17
open PySem PySem.Spec PyProof.Rows L2 Evl Gx
abbrev s_law : Stmt := topS 18
theorem sc_law : FnScope ["_law_script", "_law_bag_here", "_law_far", "_law_turn", "_law_steps", "_law_numbers", "_law_word", "_law_k", "_law_key", "_law_number_here", "_law_way", "_law_some", "_law_due", "_law_again"] ["_law_script"] (defScope s_law) := ⟨rfl, rfl, rfl, by decide +kernel, rfl, by decide +kernel, by decide +kernel⟩
def spLaw (K : PySem.W.Frag) : Sp := fun vs H Q _ => ∃ (a : Addr) (ns : List Int), vs = [.ref a] ∧ SqL K H a (ns.map V.int) ∧ ns.length ≤ 63 ∧ ∀ H', Q (.bl true) H'
theorem shaped_stps : ∀ ss : List Stp, PyData.canLayAll0 (ss.map Stp.data) = true ∧ PyData.depthAll (ss.map Stp.data) ≤ 3
  | [] => ⟨rfl, by decide⟩
  | s :: r => by
    obtain ⟨h1, h2⟩ := shaped_stps r
    have h3 : PyData.canLay0 s.data = true ∧ s.data.depth ≤ 3 := by
      cases s with
      | found ps =>
        obtain ⟨g1, g2⟩ := shaped_pairs ps
        refine ⟨?_, ?_⟩
        · simp only [Stp.data, PyData.canLay0, PyData.canLayAll0, g1]
          decide +kernel
        · simp only [Stp.data, PyData.depth, PyData.depthAll]
          omega
      | plus k => exact ⟨by simp only [Stp.data, PyData.canLay0, PyData.canLayAll0]; decide +kernel, by simp [Stp.data, PyData.depth, PyData.depthAll]⟩
      | times k => exact ⟨by simp only [Stp.data, PyData.canLay0, PyData.canLayAll0]; decide +kernel, by simp [Stp.data, PyData.depth, PyData.depthAll]⟩
      | into k => exact ⟨by simp only [Stp.data, PyData.canLay0, PyData.canLayAll0]; decide +kernel, by simp [Stp.data, PyData.depth, PyData.depthAll]⟩
      | over k => exact ⟨by simp only [Stp.data, PyData.canLay0, PyData.canLayAll0]; decide +kernel, by simp [Stp.data, PyData.depth, PyData.depthAll]⟩
    refine ⟨?_, ?_⟩
    · simp [PyData.canLayAll0, h1, h3.1]
    · simp only [List.map_cons, PyData.depthAll]
      have := h3.2
      omega
theorem shaped_tup (ss : List Stp) : SeqAt.shaped (.tuple (ss.map Stp.data)) = true := by
  obtain ⟨h1, h2⟩ := shaped_stps ss
  unfold SeqAt.shaped
  rw [show PyData.canLay0 (.tuple (ss.map Stp.data)) = true from h1]
  show (true && decide (PyData.depthAll (ss.map Stp.data) + 1 ≤ 64)) = true
  rw [Bool.true_and]
  exact decide_eq_true (by omega)
theorem leadAll_big {ss : List Stp} : ∀ {n m : Int} {b : Nat}, (∀ s ∈ ss, Stp.ok s) → n.natAbs < 2 ^ b → leadAll ss n = some m → m.natAbs < 2 ^ (b + 41 * ss.length) := by
  induction ss with
  | nil => intro n m b _ hn h; cases h; simpa using hn
  | cons s r ih =>
    intro n m b ho hn h
    unfold leadAll at h
    cases e : lead s n with
    | none => rw [e] at h; cases h
    | some q =>
      rw [e] at h
      have := ih (fun z hz => ho z (List.mem_cons_of_mem _ hz)) (lead_big (ho s List.mem_cons_self) hn e) h
      rw [List.length_cons]
      have e2 : b + 41 + 41 * r.length = b + 41 * (r.length + 1) := by omega
      rw [e2] at this
      exact this
theorem erred_big {ss : List Stp} : ∀ {n m : Int} {b : Nat}, (∀ s ∈ ss, Stp.ok s) → n.natAbs < 2 ^ b → erredAt ss n = some m → m.natAbs < 2 ^ (b + 41 * ss.length) := by
  induction ss with
  | nil => intro n m b _ hn h; cases h
  | cons s r ih =>
    intro n m b ho hn h
    have h : (match lead s n with | some m => erredAt r m | none => some n) = some m := h
    rw [List.length_cons]
    cases e : lead s n with
    | none =>
      rw [e] at h
      cases h
      exact Nat.lt_of_lt_of_le hn (Nat.pow_le_pow_right (by decide) (by omega))
    | some q =>
      rw [e] at h
      have := ih (fun z hz => ho z (List.mem_cons_of_mem _ hz)) (lead_big (ho s List.mem_cons_self) hn e) h
      have e2 : b + 41 + 41 * r.length = b + 41 * (r.length + 1) := by omega
      rw [e2] at this
      exact this
theorem heard_big {ss : List Stp} {n : Int} (ho : ∀ s ∈ ss, Stp.ok s) (hl : ss.length ≤ 10) (hn : n.natAbs < 2 ^ 200) : (heardV ss n).2.natAbs.log2 < 1920 := by
  have go : ∀ m : Int, m.natAbs < 2 ^ (200 + 41 * ss.length) → m.natAbs.log2 < 1920 := fun m h => by
    by_cases h0 : m.natAbs = 0
    · rw [h0]; decide
    · have := (Nat.log2_lt h0).mpr h
      omega
  unfold heardV
  cases e : leadAll ss n with
  | some m => exact go m (leadAll_big ho hn e)
  | none =>
    obtain ⟨m, hm⟩ := leadAll_none e
    rw [hm]
    exact go m (erred_big ho hn hm)
theorem cp10_30 : CPow 10 30 := ⟨by decide, by decide, by decide⟩
theorem far_big {u : Int} (h0 : 0 ≤ u) (h1 : u < 9) : ((10 : Int) ^ (30 : Int).toNat + u).natAbs < 2 ^ 200 := by
  have e : (10 : Int) ^ (30 : Int).toNat = 1000000000000000000000000000000 := by decide
  rw [e]
  have p : (2 : Nat) ^ 200 = 1606938044258990275541962092341162602522202993782792835301376 := by decide
  rw [p]
  omega
theorem first_near {g v : Int} (hg : g.natAbs < 2 ^ 200) (hv : Near v) :
    ∀ n ∈ [-4, -3, -2, -1, 0, 1, 2, 3, 4] ++ [1000000000000, -1000000000000, 1000000000000 - 1, g, v], n.natAbs < 2 ^ 200 := by
  have p : (2 : Nat) ^ 200 = 1606938044258990275541962092341162602522202993782792835301376 := by decide
  rw [p] at hg ⊢
  obtain ⟨h1, h2⟩ := hv
  intro n hn
  simp only [List.cons_append, List.nil_append, List.mem_cons, List.not_mem_nil, or_false] at hn
  omega
theorem sqt_toI {K : PySem.W.Frag} {H H' : Hp} {a : Addr} {xs : List V} (h : SqT K H a xs) (e : ExI H H') : SqT K H' a xs := by
  rcases h with (h | ⟨o, h⟩) | h
  · exact .inl (.inl (e _ _ h rfl))
  · exact .inl (.inr ⟨o, e _ _ h rfl⟩)
  · exact .inr h
theorem pair_of {K : PySem.W.Frag} {H : Hp} {as : List Addr} {ps : List (Int × Int)} {j : Nat} {z : V} (hp : Paired (PairAt K H) as ps)
    (hj : (as.map V.ref)[j]? = some z) : ∃ (p : Addr) (pr : Int × Int), ps[j]? = some pr ∧ z = .ref p ∧ SqT K H p [.int pr.1, .int pr.2] := by
  rw [List.getElem?_map] at hj
  obtain ⟨p, h1, h2⟩ := Option.map_eq_some_iff.mp hj
  obtain ⟨pr, h3, h4⟩ := Gx.paired_get hp h1
  exact ⟨p, pr, h3, h2.symm, h4⟩
theorem keys_snoc {ps : List (Int × Int)} {j : Nat} {pr : Int × Int} (F : Int → Int) (h : ps[j]? = some pr) :
    ((ps.map fun p => F p.1).take j).map V.int ++ [V.int (F pr.1)] = ((ps.map fun p => F p.1).take (j + 1)).map V.int := by
  have e : (ps.map fun p => F p.1)[j]? = some (F pr.1) := by rw [List.getElem?_map, h]; rfl
  rw [take_snoc e, List.map_append]
  rfl
theorem more_near {ns : List Int} {ps : List (Int × Int)} (hn : ∀ n ∈ ns, n.natAbs < 2 ^ 200) (hp : ∀ p ∈ ps, Near p.1 ∧ Near p.2) :
    ∀ n ∈ (ns ++ ps.map (·.1)) ++ ps.map (fun p => p.1 + 1), n.natAbs < 2 ^ 200 := by
  have p : (2 : Nat) ^ 200 = 1606938044258990275541962092341162602522202993782792835301376 := by decide
  intro n h
  rcases List.mem_append.mp h with h | h
  · rcases List.mem_append.mp h with h | h
    · exact hn n h
    · obtain ⟨q, h1, rfl⟩ := List.mem_map.mp h
      obtain ⟨a, b⟩ := (hp q h1).1
      rw [p]
      show q.1.natAbs < _
      omega
  · obtain ⟨q, h1, rfl⟩ := List.mem_map.mp h
    obtain ⟨a, b⟩ := (hp q h1).1
    rw [p]
    show (q.1 + 1).natAbs < _
    omega
theorem way_of {j : Nat} {z : V} (h : [V.int 0, .int 1][j]? = some z) : ∃ way : Int, z = .int way ∧ (way = 0 ∨ way = 1) := by
  match j, h with
  | 0, h => cases h; exact ⟨0, rfl, .inl rfl⟩
  | 1, h => cases h; exact ⟨1, rfl, .inr rfl⟩
theorem whole1 {n : Nat} (h : HT.sIx n n (some (1 : Int)) = n) : n ≤ 1 := by
  have h : (if (1 : Int) < 0 then ((1 : Int) + n).toNat else min (1 : Int).toNat n) = n := h
  rw [if_neg (by decide)] at h
  have e : (1 : Int).toNat = 1 := rfl
  rw [e] at h
  omega
theorem stps_take {K : PySem.W.Frag} {H : Hp} {vs : List V} {ss : List Stp} (h : StpsAt K H vs ss) (n : Nat) : StpsAt K H (vs.take n) (ss.take n) := by
  induction h generalizing n with
  | nil => simpa using Paired.nil
  | cons a _ ih =>
    cases n with
    | zero => exact .nil
    | succ n => exact .cons a (ih n)
theorem one_of {ts : List Stp} (h : ts.length ≤ 1) : ts = [] ∨ ∃ s, ts = [s] := by
  match ts, h with
  | [], _ => exact .inl rfl
  | [s], _ => exact .inr ⟨s, rfl⟩
theorem ne_one (s : Stp) : (!PyData.eqv (.tuple ([s].map Stp.data)) (.tuple [])) = true := by
  simp [PyData.eqv, PyData.eqvAll]
theorem two_of {us : List Addr} (h : us.length = 2) : ∃ u1 u2, us = [u1, u2] := by
  match us, h with
  | [u1, u2], _ => exact ⟨u1, u2, rfl⟩
/-- what is compared: the pair twice -/
def pairs2 (p : Str × Int) : PyData := .list [.tuple [.str p.1, .int p.2], .tuple [.str p.1, .int p.2]]
theorem pairs2_ok (ss : List Stp) (n : Int) (h : (heardV ss n).2.natAbs.log2 < 1920) :
    SeqAt.shaped (pairs2 (heardV ss n)) = true ∧ (pairs2 (heardV ss n)).showable = true ∧ wide (pairs2 (heardV ss n)) ≤ 10000000 := by
  have e : (heardV ss n).1 = ("told" : Str) ∨ (heardV ss n).1 = ("errs" : Str) := by
    unfold heardV
    cases leadAll ss n with
    | some m => exact .inl rfl
    | none => exact .inr rfl
  unfold pairs2
  generalize (heardV ss n).1 = x at e
  generalize (heardV ss n).2 = y at h
  have e1 : PyData.strOk ("told" : Str) = true := by decide +kernel
  have e2 : PyData.strOk ("errs" : Str) = true := by decide +kernel
  refine ⟨?_, ?_, ?_⟩
  · rcases e with rfl | rfl
    · simp only [SeqAt.shaped, PyData.canLay0, PyData.canLayAll0, PyData.depth, PyData.depthAll, e1]
      rfl
    · simp only [SeqAt.shaped, PyData.canLay0, PyData.canLayAll0, PyData.depth, PyData.depthAll, e2]
      rfl
  · simp [PyData.showable, PyData.showableAll, h]
  · have q : (reprText x).length ≤ 100 := by rcases e with rfl | rfl <;> decide +kernel
    simp only [wide, wide.wideAll]
    omega
section
variable {P : Program} {w : World} {K : PySem.W.Frag} {mg : Str → Option Value} {base : Heap} {C fI : Addr} {fdI : FuncData}
variable {f_l_bag f_l_take f_l_number f_l_steps_drawn f_l_led f_l_erred f_l_alike f_l_heard f_steps_on : Addr}
  {fd_l_bag fd_l_take fd_l_number fd_l_steps_drawn fd_l_led fd_l_erred fd_l_alike fd_l_heard fd_steps_on : FuncData}
theorem ok_law {f : Addr} {fd : FuncData} (D : Def K mg "law" s_law f fd ["_law_script"]) (bi : Bi mg)
    (D_l_bag : Def K mg "_law_bag" s_l_bag f_l_bag fd_l_bag ["_law_script"])
    (G_l_bag : FnOk P w K mg base CX0 1 f_l_bag fd_l_bag ["_law_script"] (spBag K))
    (D_l_take : Def K mg "_law_take" s_l_take f_l_take fd_l_take ["_law_bag_here", "_law_many"])
    (G_l_take : FnOk P w K mg base CX0 1 f_l_take fd_l_take ["_law_bag_here", "_law_many"] spTake)
    (D_l_number : Def K mg "_law_number" s_l_number f_l_number fd_l_number ["_law_bag_here"])
    (G_l_number : FnOk P w K mg base CX0 2 f_l_number fd_l_number ["_law_bag_here"] spNumber)
    (D_l_steps_drawn : Def K mg "_law_steps_drawn" s_l_steps_drawn f_l_steps_drawn fd_l_steps_drawn ["_law_bag_here", "_law_most"])
    (G_l_steps_drawn : FnOk P w K mg base CX0 4 f_l_steps_drawn fd_l_steps_drawn ["_law_bag_here", "_law_most"] (spSteps K))
    (D_l_led : Def K mg "_law_led" s_l_led f_l_led fd_l_led ["_law_steps", "_law_number_here"])
    (G_l_led : FnOk P w K mg base CX0 1 f_l_led fd_l_led ["_law_steps", "_law_number_here"] (spLed K))
    (D_l_erred : Def K mg "_law_erred" s_l_erred f_l_erred fd_l_erred ["_law_steps", "_law_number_here"])
    (G_l_erred : FnOk P w K mg base CX0 2 f_l_erred fd_l_erred ["_law_steps", "_law_number_here"] (spErred K))
    (D_l_alike : Def K mg "_law_alike" s_l_alike f_l_alike fd_l_alike ["_law_found", "_law_due"])
    (G_l_alike : FnQ P w K mg base CX0 1 f_l_alike fd_l_alike ["_law_found", "_law_due"] (spAlike K))
    (D_l_heard : Def K mg "_law_heard" s_l_heard f_l_heard fd_l_heard ["_law_way", "_law_steps", "_law_number_here"])
    (G_l_heard : FnOk P w K mg base CX0 6 f_l_heard fd_l_heard ["_law_way", "_law_steps", "_law_number_here"] (spHeard K))
    (D_steps_on : Def K mg "steps_on" s_steps_on f_steps_on fd_steps_on ["steps", "number"])
    (G_steps_on : FnOk P w K mg base (L2.CX P w) 4 f_steps_on fd_steps_on ["steps", "number"] (spStepsOn K C)) :
    FnQ P w K mg base CX0 8 f fd ["_law_script"] (spLaw K) := by
  refine fnq_ok D.fn sc_law (fun vs H Q E h => ?_) (fun cdv A outer s0 H vs Q E hr qu h => ?_)
  · obtain ⟨a, ns, rfl, _⟩ := h
    rfl
  · obtain ⟨a, ns, rfl, ha, hl, k⟩ := h
    have hu64 := hr.units
    refine ⟨_, (pss_cons (ps_set (i := 1) sc_law.nd rfl (Or.inl rfl) (pe_call G_l_bag (hr.mono (by first | decide | omega)) rfl D_l_bag.mg D_l_bag.fn.kp D_l_bag.bd .nil pass0 (pa_cons (pv 0) pa_nil)))
  (pss_cons (ps_set (i := 2) sc_law.nd rfl (Or.inl rfl) (pe_op op_pow pe_int pe_int))
  (Evl.pss_cut (ps_for PassesOwn.never rfl (pi_range1 rfl bi.range (pa_cons pe_int pa_nil)) (pg_name (i := 3) sc_law.nd rfl (Or.inl rfl))
    (pss_cons (ps_set (i := 4) sc_law.nd rfl (Or.inl rfl) (pe_call G_l_steps_drawn (hr.mono (by first | decide | omega)) rfl D_l_steps_drawn.mg D_l_steps_drawn.fn.kp D_l_steps_drawn.bd .nil pass0 (pa_cons (pv 1) (pa_cons pe_int pa_nil))))
    (pss_cons (ps_set (i := 5) sc_law.nd rfl (Or.inl rfl) (pe_op op_cat (pe_listRg rfl rfl bi.list (prg_2 rfl bi.range (pe_un un_neg pe_int) pe_int)) (pe_lst (pa_cons (pv 2) (pa_cons (pe_un un_neg (pv 2)) (pa_cons (pe_op op_sub (pv 2) pe_int) (pa_cons (pe_op op_add (pe_op op_pow pe_int pe_int) (pe_call G_l_take (hr.mono (by first | decide | omega)) rfl D_l_take.mg D_l_take.fn.kp D_l_take.bd .nil pass0 (pa_cons (pv 1) (pa_cons pe_int pa_nil)))) (pa_cons (pe_call G_l_number (hr.mono (by first | decide | omega)) rfl D_l_number.mg D_l_number.fn.kp D_l_number.bd .nil pass0 (pa_cons (pv 1) pa_nil)) pa_nil))))))))
    (Evl.pss_cut (ps_for PassesOwn.never rfl (pi_tup (pv 4)) (pg_tup rfl (pgs_cons (pg_name (i := 6) sc_law.nd rfl (Or.inl rfl)) (pgs_cons (pg_name (i := 7) sc_law.nd rfl (Or.inl rfl)) pgs_nil)))
      (pss_one (ps_if (pt_cmpR op_eq (pv 6) pe_str (nomark _))
        (pss_one (ps_set (i := 5) sc_law.nd rfl (Or.inl rfl) (pe_op op_cat (pe_op op_cat (pv 5) (pe_lc (own := [("_law_key", 8), ("_law_number_here", 9)]) (g := gTup K 2 (gCons (gName 8) (gCons (gName 9) gNil))) rfl sc_law.nd (pi_tup (pv 7)) (blkOk_by (N := ["_law_script", "_law_bag_here", "_law_far", "_law_turn", "_law_steps", "_law_numbers", "_law_word", "_law_k", "_law_key", "_law_number_here", "_law_way", "_law_some", "_law_due", "_law_again"]) (sc := defScope s_law) (by decide +kernel)) (fun _ _ _ _ _ => (pg_tup rfl (pgs_cons (pg_name (i := 8) sc_law.nd rfl (Or.inl rfl)) (pgs_cons (pg_name (i := 9) sc_law.nd rfl (Or.inl rfl)) pgs_nil)))) (fun _ _ _ _ _ => pts_nil) (fun _ _ _ _ _ => (pv 8)))) (pe_lc (own := [("_law_key", 8), ("_law_number_here", 9)]) (g := gTup K 2 (gCons (gName 8) (gCons (gName 9) gNil))) rfl sc_law.nd (pi_tup (pv 7)) (blkOk_by (N := ["_law_script", "_law_bag_here", "_law_far", "_law_turn", "_law_steps", "_law_numbers", "_law_word", "_law_k", "_law_key", "_law_number_here", "_law_way", "_law_some", "_law_due", "_law_again"]) (sc := defScope s_law) (by decide +kernel)) (fun _ _ _ _ _ => (pg_tup rfl (pgs_cons (pg_name (i := 8) sc_law.nd rfl (Or.inl rfl)) (pgs_cons (pg_name (i := 9) sc_law.nd rfl (Or.inl rfl)) pgs_nil)))) (fun _ _ _ _ _ => pts_nil) (fun _ _ _ _ _ => (pe_op op_add (pv 8) pe_int))))))
        pss_nil)))
    (pss_one (ps_for PassesOwn.never rfl (pi_list (pv 5)) (pg_name (i := 9) sc_law.nd rfl (Or.inr rfl))
      (pss_one (ps_for PassesOwn.never rfl (pi_tup (pe_tup (pa_cons pe_int (pa_cons pe_int pa_nil)))) (pg_name (i := 10) sc_law.nd rfl (Or.inr rfl))
        (Evl.pss_cut (ps_set (i := 11) sc_law.nd rfl (Or.inr rfl) (pe_ix ix_list (pe_lst (pa_cons (pe_slice sl_tupA (pv 4) po_none (po_some pe_int)) (pa_cons (pv 4) pa_nil))) (pv 10) (fun _ _ => rfl)))
        (pss_one (ps_if (L2.PW.pt (pw_or (pt_cmpR op_eq (pv 10) pe_int (nomark _)) (pw_or1 (pt_cmpR (op_neD hu64) (pv 11) (pe_tup pa_nil) (nomark _)))))
          (Evl.pss_cut (ps_set (i := 12) sc_law.nd rfl (Or.inl rfl) (pe_tup (pa_cons pe_str (pa_cons (pe_call G_l_led (hr.mono (by first | decide | omega)) rfl D_l_led.mg D_l_led.fn.kp D_l_led.bd .nil pass0 (pa_cons (pv 11) (pa_cons (pv 9) pa_nil))) pa_nil))))
          (Evl.pss_cut (ps_if (pt_cmpR op_isN (pe_ix ix_tup (pv 12) pe_int (fun _ _ => rfl)) pe_non (nomark _))
            (pss_one (ps_set (i := 12) sc_law.nd rfl (Or.inl rfl) (pe_tup (pa_cons pe_str (pa_cons (pe_call G_l_erred (hr.mono (by first | decide | omega)) rfl D_l_erred.mg D_l_erred.fn.kp D_l_erred.bd .nil pass0 (pa_cons (pv 11) (pa_cons (pv 9) pa_nil))) pa_nil)))))
            pss_nil)
          (pss_one (ps_if (pt_not (pt_val (pe_callQ G_l_alike qu (hr.mono (by first | decide | omega)) rfl D_l_alike.mg D_l_alike.fn.kp D_l_alike.bd pass0 (pa_cons (pe_lc (own := [("_law_again", 13)]) rfl sc_law.nd (pi_range1 rfl bi.range (pa_cons pe_int pa_nil)) (blkOk_by (N := ["_law_script", "_law_bag_here", "_law_far", "_law_turn", "_law_steps", "_law_numbers", "_law_word", "_law_k", "_law_key", "_law_number_here", "_law_way", "_law_some", "_law_due", "_law_again"]) (sc := defScope s_law) (by decide +kernel)) (fun _ _ _ _ _ => (pg_name (i := 13) sc_law.nd rfl (Or.inl rfl))) (fun _ _ _ _ _ => pts_nil) (fun _ _ _ _ _ => (pe_call G_l_heard (hr.mono (by first | decide | omega)) rfl D_l_heard.mg D_l_heard.fn.kp D_l_heard.bd .nil pass0 (pa_cons (pv 10) (pa_cons (pv 11) (pa_cons (pv 9) pa_nil)))))) (pa_cons (pe_lst (pa_cons (pv 12) (pa_cons (pv 12) pa_nil))) pa_nil)))))
            (pss_one (ps_ret pe_bl))
            pss_nil))))
          pss_nil)))))))))))
  (pss_one (ps_ret (pe_and (pe_callQ G_l_alike qu (hr.mono (by first | decide | omega)) rfl D_l_alike.mg D_l_alike.fn.kp D_l_alike.bd pass0 (pa_cons (pe_call G_steps_on (hr.mono (by first | decide | omega)) rfl D_steps_on.mg D_steps_on.fn.kp D_steps_on.bd .nil passL (pa_cons (pe_tup pa_nil) (pa_cons pe_int pa_nil))) (pa_cons pe_int pa_nil))) (pe_one (pe_cmpR (op_eqD hu64) (pe_call G_l_heard (hr.mono (by first | decide | omega)) rfl D_l_heard.mg D_l_heard.fn.kp D_l_heard.bd .nil pass0 (pa_cons pe_int (pa_cons (pe_tup (pa_cons (pe_tup (pa_cons pe_str (pa_cons pe_int pa_nil))) (pa_cons (pe_tup (pa_cons pe_str (pa_cons pe_int pa_nil))) pa_nil))) (pa_cons pe_int pa_nil)))) (pe_tup (pa_cons pe_str (pa_cons pe_int pa_nil))) (nomark _))))))))), ?_⟩
    refine ⟨_, rfl, a, ns, rfl, ha, by omega, fun b H1 x1 hb => ?_⟩
    refine ⟨10, 12, rfl, rfl, cp10_12, ?_⟩
    refine ⟨fun _ _ => True, ?_, fun σ H' _ => ?_⟩
    · refine ⟨12, rfl, by decide, by decide, for_range (n := 12) (fun i σ H' => ∃ x3 x4 x5 x6 x7 x8 x9 x10 x11 x12 x13 : Option V,
        σ = [some (.ref a), some (.ref b), some (.int 1000000000000), x3, x4, x5, x6, x7, x8, x9, x10, x11, x12, x13] ∧ Ex H1 H') ?_ ?_ (fun _ _ _ => trivial)⟩
      · exact ⟨none, none, none, none, none, none, none, none, none, none, none, by rw [← p10_12]; rfl, Ex.refl H1⟩
      · rintro i σ H2 hi ⟨x3, x4, x5, x6, x7, x8, x9, x10, x11, x12, x13, rfl, e1⟩
        refine ⟨_, rfl, b, rfl, hb.to e1, fun q ws ss H3 e2 hl4 ho hx hst => ?_⟩
        have e3 := e1.trans e2
        -- the numbers
        refine ⟨4, rfl, -4, 5, rfl, rfl, ⟨by decide, by decide, by decide, by decide, by decide⟩, fun n1 m1 => ?_⟩
        have r1 : upd H3 n1 (.lst (rgV (-4) 5)) n1 = some (.lst ([-4, -3, -2, -1, 0, 1, 2, 3, 4].map V.int)) := upd_same
        have e4 := ex_upd (o := .lst (rgV (-4) 5)) e3 m1
        have w4 : Ex H3 (upd H3 n1 (.lst (rgV (-4) 5))) := Ex.new m1
        generalize upd H3 n1 (.lst (rgV (-4) 5)) = H4 at r1 e4 w4 ⊢
        refine ⟨_, rfl, _, rfl, 1000000000000, rfl, _, rfl, 1000000000000, 1, rfl, rfl, ?_⟩
        refine ⟨10, 30, rfl, rfl, cp10_30, _, rfl, b, 9, rfl, hb.to e4, by decide, by decide, fun u u0 u1 => ⟨10 ^ (30 : Int).toNat, u, rfl, rfl, ?_⟩⟩
        refine ⟨_, rfl, b, rfl, hb.to e4, fun v vn H5 e5 => ?_⟩
        refine ⟨sz5, fun n2 m2 => ?_⟩
        have r2 : upd H5 n2 (.lst ([1000000000000, -1000000000000, 1000000000000 - 1, 10 ^ (30 : Int).toNat + u, v].map V.int)) n2 =
          some (.lst ([1000000000000, -1000000000000, 1000000000000 - 1, 10 ^ (30 : Int).toNat + u, v].map V.int)) := upd_same
        have e6 := ex_upd (o := .lst ([1000000000000, -1000000000000, 1000000000000 - 1, 10 ^ (30 : Int).toNat + u, v].map V.int)) (e4.trans e5) m2
        have w6 := ex_upd (o := .lst ([1000000000000, -1000000000000, 1000000000000 - 1, 10 ^ (30 : Int).toNat + u, v].map V.int)) (w4.trans e5) m2
        have r1' := ex_upd (o := .lst ([1000000000000, -1000000000000, 1000000000000 - 1, 10 ^ (30 : Int).toNat + u, v].map V.int)) e5 m2 _ _ r1
        have far := far_big u0 u1
        refine ⟨n1, n2, _, _, rfl, rfl, r1', r2, by show 9 + 5 ≤ sizeLine; decide, fun n3 m3 => ?_⟩
        have e7 := ex_upd (o := .lst (([-4, -3, -2, -1, 0, 1, 2, 3, 4] ++ [1000000000000, -1000000000000, 1000000000000 - 1, 10 ^ (30 : Int).toNat + u, v]).map V.int)) e6 m3
        have w7 := ex_upd (o := .lst (([-4, -3, -2, -1, 0, 1, 2, 3, 4] ++ [1000000000000, -1000000000000, 1000000000000 - 1, 10 ^ (30 : Int).toNat + u, v]).map V.int)) w6 m3
        -- .. and those of the steps that look a number up
        refine ⟨fun σ H' => ∃ (x6 x7 x8 x9 : Option V) (d : Addr) (ns : List Int), σ = [some (.ref a), some (.ref b), some (.int 1000000000000), some (.int (0 + (i : Int))), some (.ref q), some (.ref d), x6, x7, x8, x9, x10, x11, x12, x13] ∧
          Ex H3 H' ∧ H' d = some (.lst (ns.map V.int)) ∧ ∀ n ∈ ns, n.natAbs < 2 ^ 200, ?_, fun σ H' m => ?_⟩
        · refine ⟨_, rfl, q, rfl, ⟨_, (hx.to w7).sq⟩, for_tup (xs := ws) (fun i2 σ H' => ∃ (x6 x7 x8 x9 : Option V) (d : Addr) (ns : List Int), σ = [some (.ref a), some (.ref b), some (.int 1000000000000), some (.int (0 + (i : Int))), some (.ref q), some (.ref d), x6, x7, x8, x9, x10, x11, x12, x13] ∧
            Ex H3 H' ∧ H' d = some (.lst (ns.map V.int)) ∧ (∀ n ∈ ns, n.natAbs < 2 ^ 200) ∧ ns.length ≤ 14 + 2000 * i2) ?_ (fun i σ H' _ ⟨_, _, _, _, _, _, _, e, _⟩ => ex_t e hx.sq) ?_ ?_⟩
          · exact ⟨x6, x7, x8, x9, n3, [-4, -3, -2, -1, 0, 1, 2, 3, 4] ++ [1000000000000, -1000000000000, 1000000000000 - 1, 10 ^ (30 : Int).toNat + u, v], rfl, w7, upd_same, first_near far vn, by show 14 ≤ 14 + 2000 * 0; decide⟩
          · rintro i2 z σ H' hi2 ⟨y6, y7, y8, y9, d, ns, rfl, e, hd, hn, hlen⟩
            obtain ⟨s, hs, hv⟩ := Gx.paired_get hst hi2
            have hv := hv.to e
            have hos := ho s (List.mem_of_getElem? hs)
            have il2 : i2 < ss.length := (List.getElem?_eq_some_iff.mp hs).1
            have same : ∀ (z6 z7 : Option V), ∃ (x6 x7 x8 x9 : Option V) (d' : Addr) (ns' : List Int), [some (V.ref a), some (.ref b), some (.int 1000000000000), some (.int (0 + (i : Int))), some (.ref q), some (.ref d), z6, z7, y8, y9, x10, x11, x12, x13] = [some (.ref a), some (.ref b), some (.int 1000000000000), some (.int (0 + (i : Int))), some (.ref q), some (.ref d'), x6, x7, x8, x9, x10, x11, x12, x13] ∧
              Ex H3 H' ∧ H' d' = some (.lst (ns'.map V.int)) ∧ (∀ n ∈ ns', n.natAbs < 2 ^ 200) ∧ ns'.length ≤ 14 + 2000 * (i2 + 1) :=
              fun z6 z7 => ⟨z6, z7, y8, y9, d, ns, rfl, e, hd, hn, by omega⟩
            cases s with
            | plus m =>
              obtain ⟨t, rfl, ht⟩ := hv
              refine ⟨t, _, rfl, ht, rfl, _, _, rfl, _, _, rfl, rfl, ⟨_, rfl, rfl, _, rfl, if_f (by decide +kernel) (same _ _)⟩⟩
            | times m =>
              obtain ⟨t, rfl, ht⟩ := hv
              refine ⟨t, _, rfl, ht, rfl, _, _, rfl, _, _, rfl, rfl, ⟨_, rfl, rfl, _, rfl, if_f (by decide +kernel) (same _ _)⟩⟩
            | into m =>
              obtain ⟨t, rfl, ht⟩ := hv
              refine ⟨t, _, rfl, ht, rfl, _, _, rfl, _, _, rfl, rfl, ⟨_, rfl, rfl, _, rfl, if_f (by decide +kernel) (same _ _)⟩⟩
            | over m =>
              obtain ⟨t, rfl, ht⟩ := hv
              refine ⟨t, _, rfl, ht, rfl, _, _, rfl, _, _, rfl, rfl, ⟨_, rfl, rfl, _, rfl, if_f (by decide +kernel) (same _ _)⟩⟩
            | found ps =>
              obtain ⟨t, c, as, rfl, ht, hc, hp⟩ := hv
              have pl' : (as.map V.ref).length = (ps.map (·.1)).length := by rw [List.length_map, List.length_map]; exact Paired.length hp
              refine ⟨t, _, rfl, ht, rfl, _, _, rfl, _, _, rfl, rfl, ⟨_, rfl, rfl, _, rfl, if_t (by decide +kernel) ?_⟩⟩
              refine ⟨_, rfl, _, rfl, c, rfl, ⟨_, hc.sq⟩, fun D nD => lc_tup (xs := as.map V.ref) (fun j H'' => Ex H' H'' ∧ H'' D = some (.lst (((ps.map (·.1)).take j).map V.int))) ?_ (fun j H'' _ g => ex_t g.1 hc.sq) ?_ ?_⟩
              · exact ⟨Ex.new nD, upd_same⟩
              · rintro j z H'' hj ⟨g1, g2⟩
                obtain ⟨p, pr, hpr, rfl, hpa⟩ := pair_of hp hj
                have jl : j < ps.length := (List.getElem?_eq_some_iff.mp hpr).1
                refine ⟨p, _, rfl, ex_t g1 hpa, rfl, _, _, rfl, _, _, rfl, rfl, rfl, _, rfl, _, g2, small (by rw [List.length_map, List.length_take, List.length_map]; have := hos.2.2; omega), g1.mut nD, ?_⟩
                rw [upd_same, keys_snoc (fun x => x) hpr]
              · rintro H'' ⟨g1, g2⟩
                have hd2 := g1 _ _ hd
                rw [pl', List.take_length] at g2
                refine ⟨d, D, _, _, rfl, rfl, hd2, g2, ?_, fun d2 nd2 => ?_⟩
                · show (ns.map V.int).length + ((ps.map (·.1)).map V.int).length ≤ sizeLine
                  rw [List.length_map, List.length_map, List.length_map]
                  have := hos.2.2
                  exact Nat.le_of_lt (small (by omega))
                · have e8 := ex_upd (o := .lst (ns.map V.int ++ (ps.map (·.1)).map V.int)) g1 nd2
                  have h8 : upd H'' d2 (.lst (ns.map V.int ++ (ps.map (·.1)).map V.int)) d2 = some (.lst (ns.map V.int ++ (ps.map (·.1)).map V.int)) := upd_same
                  refine ⟨_, rfl, c, rfl, ⟨_, ex_t e8 hc.sq⟩, fun D2 nD2 => lc_tup (xs := as.map V.ref) (fun j H9 => Ex (upd H'' d2 (.lst (ns.map V.int ++ (ps.map (·.1)).map V.int))) H9 ∧
                    H9 D2 = some (.lst (((ps.map fun p => p.1 + 1).take j).map V.int))) ?_ (fun j H9 _ g => ex_t (e8.trans g.1) hc.sq) ?_ ?_⟩
                  · exact ⟨Ex.new nD2, upd_same⟩
                  · rintro j z H9 hj ⟨f1, f2⟩
                    obtain ⟨p, pr, hpr, rfl, hpa⟩ := pair_of hp hj
                    have jl : j < ps.length := (List.getElem?_eq_some_iff.mp hpr).1
                    refine ⟨p, _, rfl, ex_t (e8.trans f1) hpa, rfl, _, _, rfl, _, _, rfl, rfl, rfl, _, rfl, pr.1, 1, rfl, rfl, _, f2, small (by rw [List.length_map, List.length_take, List.length_map]; have := hos.2.2; omega), f1.mut nD2, ?_⟩
                    rw [upd_same, keys_snoc (fun x => x + 1) hpr]
                  · rintro H9 ⟨f1, f2⟩
                    rw [show (as.map V.ref).length = (ps.map fun p => p.1 + 1).length by rw [pl', List.length_map, List.length_map], List.take_length] at f2
                    refine ⟨d2, D2, _, _, rfl, rfl, f1 _ _ h8, f2, ?_, fun d3 nd3 => ?_⟩
                    · show (ns.map V.int ++ (ps.map (·.1)).map V.int).length + ((ps.map fun p => p.1 + 1).map V.int).length ≤ sizeLine
                      rw [List.length_append, List.length_map, List.length_map, List.length_map, List.length_map, List.length_map]
                      have := hos.2.2
                      exact Nat.le_of_lt (small (by omega))
                    · refine ⟨_, _, _, _, d3, (ns ++ ps.map (·.1)) ++ ps.map (fun p => p.1 + 1), rfl, ex_upd (e.trans (e8.trans f1)) nd3, ?_, ?_, ?_⟩
                      · rw [upd_same, List.map_append, List.map_append]
                      · exact more_near hn hos.2.1
                      · rw [List.length_append, List.length_append, List.length_map, List.length_map]
                        have := hos.2.2
                        omega
          · rintro σ H' ⟨y6, y7, y8, y9, d, ns, hs, e, hd, hn, _⟩
            exact ⟨y6, y7, y8, y9, d, ns, hs, e, hd, hn⟩
        · obtain ⟨y6, y7, y8, y9, d, ms, rfl, e, hd, hn⟩ := m
          have eA := e3.trans e
          refine ⟨_, rfl, d, rfl, ⟨_, SqL.of hd⟩, for_list (xs := ms.map V.int) (fun j σ H5 => ∃ z9 z10 z11 z12 z13 : Option V,
            σ = [some (.ref a), some (.ref b), some (.int 1000000000000), some (.int (0 + (i : Int))), some (.ref q), some (.ref d), y6, y7, y8, z9, z10, z11, z12, z13] ∧ Ex H' H5)
            ⟨_, _, _, _, _, rfl, Ex.refl H'⟩ (fun j σ H5 _ ⟨_, _, _, _, _, _, g⟩ => SqL.of (g _ _ hd)) ?_ ?_⟩
          · rintro j z σ H5 hj ⟨z9, z10, z11, z12, z13, rfl, e5⟩
            obtain ⟨n, hnj, rfl⟩ : ∃ n, ms[j]? = some n ∧ z = V.int n := by
              rw [List.getElem?_map] at hj
              obtain ⟨n, h1, h2⟩ := Option.map_eq_some_iff.mp hj
              exact ⟨n, h1, h2.symm⟩
            have nb := hn n (List.mem_of_getElem? hnj)
            refine ⟨sz2, fun t nt => ⟨t, rfl, ⟨_, SqT.of upd_same⟩, for_tup (xs := [.int 0, .int 1]) (fun j2 σ H6 => ∃ z10 z11 z12 z13 : Option V,
              σ = [some (.ref a), some (.ref b), some (.int 1000000000000), some (.int (0 + (i : Int))), some (.ref q), some (.ref d), y6, y7, y8, some (.int n), z10, z11, z12, z13] ∧ Ex (upd H5 t (.tup [.int 0, .int 1])) H6)
              ⟨_, _, _, _, rfl, Ex.refl _⟩ (fun j2 σ H6 _ ⟨_, _, _, _, _, g⟩ => SqT.of (g _ _ upd_same)) ?_ ?_⟩⟩
            · rintro j2 z σ H6 hj2 ⟨z10, z11, z12, z13, rfl, e6⟩
              obtain ⟨way, rfl, hway⟩ := way_of hj2
              have eB : Ex H3 H6 := (e.trans e5).trans ((Ex.new nt).trans e6)
              have hq6 : SqT K H6 q ws := (hx.to eB).sq
              have hst6 := stps_to hst eB
              have wl : ws.length = ss.length := Paired.length hst
              refine ⟨fun σ H7 => ∃ (c : Addr) (vs : List V) (ts : List Stp), σ = [some (.ref a), some (.ref b), some (.int 1000000000000), some (.int (0 + (i : Int))), some (.ref q), some (.ref d), y6, y7, y8, some (.int n), some (.int way), some (.ref c), z12, z13] ∧
                Ex H6 H7 ∧ SqT K H7 c vs ∧ StpsAt K H7 vs ts ∧ (∀ s ∈ ts, Stp.ok s) ∧ ts.length ≤ 4 ∧ (way = 0 → ts.length ≤ 1), ?_, fun σ H7 m => ?_⟩
              · refine ⟨_, rfl, 1, rfl, q, ws, rfl, hq6, fun h => ⟨_, rfl, sz2, fun L nL => ⟨_, rfl, L, [.ref q, .ref q], way, .ref q, rfl, rfl, SqL.of upd_same, ?_, ?_⟩⟩,
                  fun h p np => ⟨_, rfl, sz2, fun L nL => ⟨_, rfl, L, [.ref p, .ref q], way, if way = 0 then .ref p else .ref q, rfl, rfl, SqL.of upd_same, ?_, ?_⟩⟩⟩
                · rcases hway with rfl | rfl <;> rfl
                · exact ⟨q, ws, ss, rfl, Ex.new nL, ex_t (Ex.new nL) hq6, stps_to hst6 (Ex.new nL), ho, hl4, fun _ => by have := whole1 h.2; omega⟩
                · rcases hway with rfl | rfl <;> rfl
                · have eN := ex_upd (o := .lst [.ref p, .ref q]) (Ex.new (o := .tup (cutV ws none (some 1))) np) nL
                  rcases hway with rfl | rfl
                  · have hp := (Ex.new (o := .lst [.ref p, .ref q]) nL) _ _ (upd_same (H := H6) (a := p) (o := .tup (cutV ws none (some 1))))
                    exact ⟨p, cutV ws none (some 1), ss.take 1, rfl, eN, SqT.of hp, stps_to (cut_take ws 1 ▸ stps_take hst6 1) eN,
                      fun s hs => ho s (List.mem_of_mem_take hs), by rw [List.length_take]; omega, fun _ => by rw [List.length_take]; omega⟩
                  · exact ⟨q, ws, ss, rfl, eN, ex_t eN hq6, stps_to hst6 eN, ho, hl4, fun h => absurd h (by decide)⟩
              · obtain ⟨c, vs, ts, rfl, e7, hc, htt, hto, htl, hw0⟩ := m
                have e67 := e6.trans e7
                -- nothing to do
                have skip : ∀ (σ : L2.St) (H8 : Hp) (z12' z13' : Option V), Ex H7 H8 → σ = [some (.ref a), some (.ref b), some (.int 1000000000000), some (.int (0 + (i : Int))), some (.ref q), some (.ref d), y6, y7, y8, some (.int n), some (.int way), some (.ref c), z12', z13'] →
                  ∃ z10 z11 z12 z13 : Option V, σ = [some (.ref a), some (.ref b), some (.int 1000000000000), some (.int (0 + (i : Int))), some (.ref q), some (.ref d), y6, y7, y8, some (.int n), z10, z11, z12, z13] ∧ Ex (upd H5 t (.tup [.int 0, .int 1])) H8 :=
                  fun σ H8 z12' z13' g h => ⟨_, _, _, _, h, e67.trans g⟩
                have nb10 : n.natAbs < 2 ^ 1000 := Nat.lt_of_lt_of_le nb (Nat.pow_le_pow_right (by decide) (by decide))
                refine ⟨_, rfl, rfl, _, rfl, if_d (fun h1 => if_t rfl ?_) (fun h1 => ⟨_, rfl, by decide, fun t0 n0 => ?_⟩)⟩
                · have hw1 : way = 0 → ∃ s, ts = [s] := fun h => absurd (h.symm.trans (V.int.inj h1)) (by decide)
                  refine ⟨fun σ H9 => ∃ u : Addr, σ = [some (.ref a), some (.ref b), some (.int 1000000000000), some (.int (0 + (i : Int))), some (.ref q), some (.ref d), y6, y7, y8, some (.int n), some (.int way), some (.ref c), some (.ref u), z13] ∧ Ex H7 H9 ∧ SqT K H9 u [.str "told", optV (leadAll ts n)], ?_, fun σ H9 m => ?_⟩
                  · exact ⟨_, rfl, _, rfl, c, vs, ts, n, rfl, ex_t (Ex.refl H7) hc, stps_to htt (Ex.refl H7), hto, by omega, nb10, fun H9 e9 => ⟨sz2, fun u nu => ⟨u, rfl, ex_upd ((Ex.refl H7).trans e9) nu, SqT.of upd_same⟩⟩⟩
                  · obtain ⟨u, rfl, e9, hu⟩ := m
                    refine ⟨fun σ H9' => ∃ u : Addr, σ = [some (.ref a), some (.ref b), some (.int 1000000000000), some (.int (0 + (i : Int))), some (.ref q), some (.ref d), y6, y7, y8, some (.int n), some (.int way), some (.ref c), some (.ref u), z13] ∧ Ex H7 H9' ∧ SqT K H9' u [.str (heardV ts n).1, .int (heardV ts n).2], ?_, fun σ H10 m => ?_⟩
                    · cases el : leadAll ts n with
                      | some r =>
                        rw [el] at hu
                        refine ⟨_, rfl, u, _, 1, .int r, rfl, rfl, hu, rfl, rfl, _, rfl, if_f (decide_eq_false nofun) ⟨u, rfl, e9, ?_⟩⟩
                        have e : heardV ts n = (("told" : Str), r) := by unfold heardV; rw [el]
                        rw [e]
                        exact hu
                      | none =>
                        rw [el] at hu
                        refine ⟨_, rfl, u, _, 1, .non, rfl, rfl, hu, rfl, rfl, _, rfl, if_t (by decide +kernel) ?_⟩
                        obtain ⟨r, hr'⟩ := leadAll_none el
                        refine ⟨_, rfl, _, rfl, c, vs, ts, n, rfl, ex_t e9 hc, stps_to htt e9, hto, by omega, nb, fun H9' e9' => ⟨sz2, fun u2 nu2 => ⟨u2, rfl, ex_upd (e9.trans e9') nu2, ?_⟩⟩⟩
                        have e : heardV ts n = (("errs" : Str), r) := by unfold heardV; rw [el, hr']; rfl
                        rw [e, hr']
                        exact SqT.of upd_same
                    · obtain ⟨u, rfl, eX, hu⟩ := m
                      refine ⟨2, rfl, by decide, by decide, fun D nD => lc_range (lo := 0) (n := 2) (fun j H12 => Ex H10 H12 ∧ ∃ us : List Addr, H12 D = some (.lst (us.map V.ref)) ∧ us.length = j ∧
                        ∀ u' ∈ us, SqT K H12 u' [.str (heardV ts n).1, .int (heardV ts n).2]) ?_ ?_ ?_⟩
                      · exact ⟨Ex.new nD, [], upd_same, rfl, by simp⟩
                      · rintro j H12 hj ⟨f1, us, f2, f3, f4⟩
                        have e12 := eX.trans f1
                        refine ⟨rfl, _, rfl, _, rfl, _, rfl, way, c, vs, ts, n, rfl, ex_t e12 hc, stps_to htt e12, hto, by omega, nb, hw1, fun t3 H13 f5 f6 => ?_⟩
                        have fi : ExI H13 (upd H13 D (.lst (us.map V.ref ++ [.ref t3]))) := ExI.put (f5 _ _ f2) rfl
                        refine ⟨us.map V.ref, f5 _ _ f2, small (by rw [List.length_map]; omega), (f1.trans f5).mut nD, us ++ [t3], by rw [upd_same, List.map_append]; rfl, by rw [List.length_append, f3]; rfl, fun u' hu' => ?_⟩
                        rcases List.mem_append.mp hu' with g | g
                        · exact sqt_toI (ex_t f5 (f4 u' g)) fi
                        · rw [List.mem_singleton] at g
                          subst g
                          exact sqt_toI f6 fi
                      · rintro H12 ⟨f1, us, f2, f3, f4⟩
                        obtain ⟨u1, u2, rfl⟩ := two_of f3
                        have d1 := f4 u1 (by simp)
                        have d2 := f4 u2 (by simp)
                        refine ⟨_, rfl, _, rfl, sz2, fun L nL => ?_⟩
                        have eL := Ex.new (H := H12) (o := .lst [.ref u, .ref u]) nL
                        have du := ex_t (f1.trans eL) hu
                        obtain ⟨p1, p2, p3⟩ := pairs2_ok ts n (heard_big hto (by omega) nb)
                        refine ⟨.ref D, .ref L, pairs2 (heardV ts n), rfl, .lst (SqL.of (eL _ _ f2)) (.cons (.tup (ex_t eL d1) (.cons (.str _) (.cons (.int _) .nil))) (.cons (.tup (ex_t eL d2) (.cons (.str _) (.cons (.int _) .nil))) .nil)),
                          .lst (SqL.of upd_same) (.cons (.tup du (.cons (.str _) (.cons (.int _) .nil))) (.cons (.tup du (.cons (.str _) (.cons (.int _) .nil))) .nil)), p1, p2, p3, ?_⟩
                        exact ⟨_, rfl, if_f rfl (skip _ _ _ _ (eX.trans (f1.trans eL)) rfl)⟩
                · have w0 : way = 0 := by rcases hway with h | h; exact h; exact absurd (by rw [h]) h1
                  have e8 := Ex.new (H := H7) (o := .tup []) n0
                  refine ⟨_, _, .tup (ex_t e8 hc) (stps_dp (stps_to htt e8)), .tup (SqT.of upd_same) .nil, shaped_tup ts, by decide +kernel, _, rfl, ?_⟩
                  rcases one_of (hw0 w0) with rfl | ⟨s, rfl⟩
                  · exact if_f (by decide +kernel) (skip _ _ _ _ e8 rfl)
                  · have hw1 : way = 0 → ∃ s', [s] = [s'] := fun _ => ⟨s, rfl⟩
                    refine if_t (ne_one s) ?_
                    refine ⟨fun σ H9 => ∃ u : Addr, σ = [some (.ref a), some (.ref b), some (.int 1000000000000), some (.int (0 + (i : Int))), some (.ref q), some (.ref d), y6, y7, y8, some (.int n), some (.int way), some (.ref c), some (.ref u), z13] ∧ Ex H7 H9 ∧ SqT K H9 u [.str "told", optV (leadAll [s] n)], ?_, fun σ H9 m => ?_⟩
                    · exact ⟨_, rfl, _, rfl, c, vs, [s], n, rfl, ex_t e8 hc, stps_to htt e8, hto, by omega, nb10, fun H9 e9 => ⟨sz2, fun u nu => ⟨u, rfl, ex_upd (e8.trans e9) nu, SqT.of upd_same⟩⟩⟩
                    · obtain ⟨u, rfl, e9, hu⟩ := m
                      refine ⟨fun σ H9' => ∃ u : Addr, σ = [some (.ref a), some (.ref b), some (.int 1000000000000), some (.int (0 + (i : Int))), some (.ref q), some (.ref d), y6, y7, y8, some (.int n), some (.int way), some (.ref c), some (.ref u), z13] ∧ Ex H7 H9' ∧ SqT K H9' u [.str (heardV [s] n).1, .int (heardV [s] n).2], ?_, fun σ H10 m => ?_⟩
                      · cases el : leadAll [s] n with
                        | some r =>
                          rw [el] at hu
                          refine ⟨_, rfl, u, _, 1, .int r, rfl, rfl, hu, rfl, rfl, _, rfl, if_f (decide_eq_false nofun) ⟨u, rfl, e9, ?_⟩⟩
                          have e : heardV [s] n = (("told" : Str), r) := by unfold heardV; rw [el]
                          rw [e]
                          exact hu
                        | none =>
                          rw [el] at hu
                          refine ⟨_, rfl, u, _, 1, .non, rfl, rfl, hu, rfl, rfl, _, rfl, if_t (by decide +kernel) ?_⟩
                          obtain ⟨r, hr'⟩ := leadAll_none el
                          refine ⟨_, rfl, _, rfl, c, vs, [s], n, rfl, ex_t e9 hc, stps_to htt e9, hto, by omega, nb, fun H9' e9' => ⟨sz2, fun u2 nu2 => ⟨u2, rfl, ex_upd (e9.trans e9') nu2, ?_⟩⟩⟩
                          have e : heardV [s] n = (("errs" : Str), r) := by unfold heardV; rw [el, hr']; rfl
                          rw [e, hr']
                          exact SqT.of upd_same
                      · obtain ⟨u, rfl, eX, hu⟩ := m
                        refine ⟨2, rfl, by decide, by decide, fun D nD => lc_range (lo := 0) (n := 2) (fun j H12 => Ex H10 H12 ∧ ∃ us : List Addr, H12 D = some (.lst (us.map V.ref)) ∧ us.length = j ∧
                          ∀ u' ∈ us, SqT K H12 u' [.str (heardV [s] n).1, .int (heardV [s] n).2]) ?_ ?_ ?_⟩
                        · exact ⟨Ex.new nD, [], upd_same, rfl, by simp⟩
                        · rintro j H12 hj ⟨f1, us, f2, f3, f4⟩
                          have e12 := eX.trans f1
                          refine ⟨rfl, _, rfl, _, rfl, _, rfl, way, c, vs, [s], n, rfl, ex_t e12 hc, stps_to htt e12, hto, by omega, nb, hw1, fun t3 H13 f5 f6 => ?_⟩
                          have fi : ExI H13 (upd H13 D (.lst (us.map V.ref ++ [.ref t3]))) := ExI.put (f5 _ _ f2) rfl
                          refine ⟨us.map V.ref, f5 _ _ f2, small (by rw [List.length_map]; omega), (f1.trans f5).mut nD, us ++ [t3], by rw [upd_same, List.map_append]; rfl, by rw [List.length_append, f3]; rfl, fun u' hu' => ?_⟩
                          rcases List.mem_append.mp hu' with g | g
                          · exact sqt_toI (ex_t f5 (f4 u' g)) fi
                          · rw [List.mem_singleton] at g
                            subst g
                            exact sqt_toI f6 fi
                        · rintro H12 ⟨f1, us, f2, f3, f4⟩
                          obtain ⟨u1, u2, rfl⟩ := two_of f3
                          have d1 := f4 u1 (by simp)
                          have d2 := f4 u2 (by simp)
                          refine ⟨_, rfl, _, rfl, sz2, fun L nL => ?_⟩
                          have eL := Ex.new (H := H12) (o := .lst [.ref u, .ref u]) nL
                          have du := ex_t (f1.trans eL) hu
                          obtain ⟨p1, p2, p3⟩ := pairs2_ok [s] n (heard_big hto (by omega) nb)
                          refine ⟨.ref D, .ref L, pairs2 (heardV [s] n), rfl, .lst (SqL.of (eL _ _ f2)) (.cons (.tup (ex_t eL d1) (.cons (.str _) (.cons (.int _) .nil))) (.cons (.tup (ex_t eL d2) (.cons (.str _) (.cons (.int _) .nil))) .nil)),
                            .lst (SqL.of upd_same) (.cons (.tup du (.cons (.str _) (.cons (.int _) .nil))) (.cons (.tup du (.cons (.str _) (.cons (.int _) .nil))) .nil)), p1, p2, p3, ?_⟩
                          exact ⟨_, rfl, if_f rfl (skip _ _ _ _ (eX.trans (f1.trans eL)) rfl)⟩
            · rintro σ H6 ⟨z10, z11, z12, z13, rfl, e6⟩
              exact ⟨_, _, _, _, _, rfl, e5.trans ((Ex.new nt).trans e6)⟩
          · rintro σ H5 ⟨z9, z10, z11, z12, z13, rfl, e5⟩
            exact ⟨_, _, _, _, _, _, _, _, _, _, _, rfl, eA.trans e5⟩
    · -- the last row
      refine ⟨by decide, fun t nt => ⟨t, [], [], 7, rfl, SqT.of upd_same, .nil, by simp, by decide, by decide, fun m hm => ?_, fun m hm => ?_⟩⟩
      · cases hm
        refine ⟨_, _, .int 7, rfl, .int 7, .int 7, by decide +kernel, by decide +kernel, by decide, true, rfl, iteT ?_⟩
        refine ⟨sz2, fun t1 n1 => ⟨sz2, fun t2 n2 => ⟨sz2, fun t3 n3 => ?_⟩⟩⟩
        have q1 := (Ex.new (o := .tup [.str "over", .int 5]) n2) _ _ (upd_same (H := upd H' t (.tup [])) (a := t1) (o := .tup [.str "over", .int 5]))
        have q2 := (Ex.new (o := .tup [.ref t1, .ref t2]) n3) _ _ q1
        have q3 := (Ex.new (o := .tup [.ref t1, .ref t2]) n3) _ _ (upd_same (H := upd (upd H' t (.tup [])) t1 (.tup [.str "over", .int 5])) (a := t2) (o := .tup [.str "over", .int 5]))
        refine ⟨1, t3, [.ref t1, .ref t2], [.over 5, .over 5], 9, rfl, SqT.of upd_same, .cons ⟨t1, rfl, SqT.of q2⟩ (.cons ⟨t2, rfl, SqT.of q3⟩ .nil), ?_, by decide, by decide, fun h => absurd h (by decide), fun t4 H4 ex4 hq => ?_⟩
        · intro s hs
          have : s = .over 5 := by simpa using hs
          subst this
          exact ⟨by decide, by decide⟩
        · refine ⟨sz2, fun t5 n5 => ?_⟩
          have e : heardV [.over 5, .over 5] 9 = (("errs" : Str), 0) := by decide +kernel
          rw [e] at hq
          refine ⟨.tuple [.str "errs", .int 0], .tuple [.str "errs", .int 0], (Dp.tup hq (.cons (.str _) (.cons (.int _) .nil))).to (Ex.new n5), .tup (SqT.of upd_same) (.cons (.str _) (.cons (.int _) .nil)),
            by decide +kernel, by decide +kernel, ?_⟩
          rw [SeqAt.eqv_refl _ (by decide +kernel)]
          exact k _
      · cases hm
end
end K17

set_option Elab.async false
set_option linter.all false
set_option maxRecDepth 100000
set_option maxHeartbeats 8000000
namespace K17
open PySem PySem.Spec PyProof.Rows L2 Evl Gx
theorem isdef_mk {K : PySem.W.Frag} {x qual : Str} {st : Stmt} {f : Addr} {oc : Value} {od : Option Addr} {kV doc pm : Value} {an : Option Addr} {cdv ct : Value} {osl : Array (Option Value)}
    (l : K.lookup f = some ⟨oc, od, .func (PySem.W.fnOf x qual (defArgs st) (defBody st) (defScope st) .none kV doc pm an cdv ct), osl⟩)
    (c : PySem.W.codeIn K cdv qual = true) (k : PySem.W.keepIn K (.ref f) = true) : IsDef K x qual st f := ⟨_, _, _, _, _, _, _, _, _, l, c, k⟩
theorem cls_mk {K : PySem.W.Frag} {C : Addr} {nm q : Str} {N : Addr} {bs bm : List Value} {sn : List Str} {sub : List Value} {ab : Bool} {col : Option Bool} {dd : Option Addr} {k0 k1 k2 k3 k5 : Option Value}
    (l : K.lookup C = some (excClassObj nm q C N bs bm true sn sub ab col dd k0 k1 k2 k3 k5 "ValueError.__new__")) (v : HandSPX.refsVE bm = true) :
    ∃ nm q N bs bm sn sub ab col dd k0 k1 k2 k3 k5, K.lookup C = some (excClassObj nm q C N bs bm true sn sub ab col dd k0 k1 k2 k3 k5 "ValueError.__new__") ∧ HandSPX.refsVE bm = true :=
  ⟨_, _, _, _, _, _, _, _, _, _, _, _, _, _, _, l, v⟩
/-- the error class's own clause takes it -/
theorem exm_own {K : PySem.W.Frag} {C : Addr} (h1 : PySem.W.subIn K (.ref C) (.type "BaseException") = some true) (h2 : PySem.W.isClsIn K C = true)
    (h3 : PySem.W.typeIn K (.ref C) = some (.type "type")) (h4 : PySem.W.subIn K (.ref C) (.ref C) = some true) : PySem.W.exmOne K (.ref C) (.ref C) = some true := by
  have g : (PySem.W.clsIn K C).isSome = true := h2
  have b : ((PySem.W.clsIn K C).isSome && PySem.W.typeIn K (.ref C) == some (.type "type")) = true := by rw [g, h3]; rfl
  have a : (PySem.W.subIn K (.ref C) (.type "BaseException") == some true) = true := by rw [h1]; rfl
  show (if (PySem.W.subIn K (.ref C) (.type "BaseException") == some true) = true then
    (if ((PySem.W.clsIn K C).isSome && PySem.W.typeIn K (.ref C) == some (.type "type")) = true then PySem.W.subIn K (.ref C) (.ref C) else none) else none) = some true
  rw [if_pos a, if_pos b]
  exact h4
theorem err_mk {K : PySem.W.Frag} {h : Heap} {mg : Str → Option Value} {x qual fl : Str} {ps : List Str} {st : Stmt} {C fI : Addr} (X : K.In h) (G : h.Ns mainGlobals mg)
    (aC : PySem.W.nsIn K mainGlobals x = some (some (.ref C)))
    (cC : ∃ nm q N bs bm sn sub ab col dd k0 k1 k2 k3 k5, K.lookup C = some (excClassObj nm q C N bs bm true sn sub ab col dd k0 k1 k2 k3 k5 "ValueError.__new__") ∧ HandSPX.refsVE bm = true)
    (sa : PySem.W.findIn K (.ref C) "__setattr__" = some (some (.builtin "object.__setattr__")))
    (ga : PySem.W.findIn K (.ref C) "__getattribute__" = some (some (.builtin "BaseException.__getattribute__")))
    (gg : PySem.W.findIn K (.ref C) "__getattr__" = some none) (no : PySem.W.findIn K (.ref C) fl = some none)
    (iC : PySem.W.findIn K (.ref C) "__init__" = some (some (.ref fI))) (tI : PySem.W.typeIn K (.ref fI) = some (.type "function"))
    (kC : PySem.W.keepIn K (.ref C) = true) (eC : PySem.W.subIn K (.ref C) (.type "BaseException") = some true) (tC : PySem.W.typeIn K (.ref C) = some (.type "type"))
    (hC : PySem.W.hasDictIn K C = true) (oC : PySem.W.isClsIn K C = true) (sC : PySem.W.subIn K (.ref C) (.ref C) = some true)
    (d : IsDef K "__init__" qual st fI)
    (hb : ∀ (kV doc pm : Value) (an : Option Addr) (cdv ct : Value) (us : List Value), us.length = ps.length →
      bindArgs (PySem.W.fnOf "__init__" qual (defArgs st) (defBody st) (defScope st) .none kV doc pm an cdv ct) ⟨us, []⟩ = pure (ps.zip us)) :
    ∃ fd, Err K mg x qual fl ps st C fI fd := by
  obtain ⟨fd, F⟩ := d.fn
  exact ⟨fd, ⟨cC, sa, eC, tC, kC⟩, PySem.W.mg_of X G aC, iC, tI, no, ⟨ga, gg, eC, hC⟩, exm_own eC oC tC sC, F, F.binds hb⟩
theorem all_ok {P : Program} {w : World} {K : PySem.W.Frag} {h : Heap} {mg : Str → Option Value} {fa f_l_bag f_l_take f_l_alike f_l_one f_l_number f_l_step f_l_led f_l_steps_drawn f_l_erred f_l_heard f_goal_of f_steps_on f_step_on f_law C_Errs fI_Errs : Addr} (X : K.In h) (G : h.Ns mainGlobals mg) (hfa : mg "law" = some (.ref fa))
    (a_l_bag : PySem.W.nsIn K mainGlobals "_law_bag" = some (some (.ref f_l_bag))) (d_l_bag : IsDef K "_law_bag" "_law_bag" s_l_bag f_l_bag)
    (a_l_take : PySem.W.nsIn K mainGlobals "_law_take" = some (some (.ref f_l_take))) (d_l_take : IsDef K "_law_take" "_law_take" s_l_take f_l_take)
    (a_l_alike : PySem.W.nsIn K mainGlobals "_law_alike" = some (some (.ref f_l_alike))) (d_l_alike : IsDef K "_law_alike" "_law_alike" s_l_alike f_l_alike)
    (a_l_one : PySem.W.nsIn K mainGlobals "_law_one" = some (some (.ref f_l_one))) (d_l_one : IsDef K "_law_one" "_law_one" s_l_one f_l_one)
    (a_l_number : PySem.W.nsIn K mainGlobals "_law_number" = some (some (.ref f_l_number))) (d_l_number : IsDef K "_law_number" "_law_number" s_l_number f_l_number)
    (a_l_step : PySem.W.nsIn K mainGlobals "_law_step" = some (some (.ref f_l_step))) (d_l_step : IsDef K "_law_step" "_law_step" s_l_step f_l_step)
    (a_l_led : PySem.W.nsIn K mainGlobals "_law_led" = some (some (.ref f_l_led))) (d_l_led : IsDef K "_law_led" "_law_led" s_l_led f_l_led)
    (a_l_steps_drawn : PySem.W.nsIn K mainGlobals "_law_steps_drawn" = some (some (.ref f_l_steps_drawn))) (d_l_steps_drawn : IsDef K "_law_steps_drawn" "_law_steps_drawn" s_l_steps_drawn f_l_steps_drawn)
    (a_l_erred : PySem.W.nsIn K mainGlobals "_law_erred" = some (some (.ref f_l_erred))) (d_l_erred : IsDef K "_law_erred" "_law_erred" s_l_erred f_l_erred)
    (a_l_heard : PySem.W.nsIn K mainGlobals "_law_heard" = some (some (.ref f_l_heard))) (d_l_heard : IsDef K "_law_heard" "_law_heard" s_l_heard f_l_heard)
    (a_goal_of : PySem.W.nsIn K mainGlobals "_goal_of" = some (some (.ref f_goal_of))) (d_goal_of : IsDef K "_goal_of" "_goal_of" s_goal_of f_goal_of)
    (a_steps_on : PySem.W.nsIn K mainGlobals "steps_on" = some (some (.ref f_steps_on))) (d_steps_on : IsDef K "steps_on" "steps_on" s_steps_on f_steps_on)
    (a_step_on : PySem.W.nsIn K mainGlobals "step_on" = some (some (.ref f_step_on))) (d_step_on : IsDef K "step_on" "step_on" s_step_on f_step_on)
    (a_law : PySem.W.nsIn K mainGlobals "law" = some (some (.ref f_law))) (d_law : IsDef K "law" "law" s_law f_law)
    (b_len : PySem.W.nsIn K mainGlobals "len" = some none)
    (b_abs : PySem.W.nsIn K mainGlobals "abs" = some none)
    (b_max : PySem.W.nsIn K mainGlobals "max" = some none)
    (b_min : PySem.W.nsIn K mainGlobals "min" = some none)
    (b_repr : PySem.W.nsIn K mainGlobals "repr" = some none)
    (b_int : PySem.W.nsIn K mainGlobals "int" = some none)
    (b_tuple : PySem.W.nsIn K mainGlobals "tuple" = some none)
    (b_list : PySem.W.nsIn K mainGlobals "list" = some none)
    (b_dict : PySem.W.nsIn K mainGlobals "dict" = some none)
    (b_isinstance : PySem.W.nsIn K mainGlobals "isinstance" = some none)
    (b_sorted : PySem.W.nsIn K mainGlobals "sorted" = some none)
    (b_sum : PySem.W.nsIn K mainGlobals "sum" = some none)
    (b_all : PySem.W.nsIn K mainGlobals "all" = some none)
    (b_any : PySem.W.nsIn K mainGlobals "any" = some none)
    (b_range : PySem.W.nsIn K mainGlobals "range" = some none)
    (b_enumerate : PySem.W.nsIn K mainGlobals "enumerate" = some none)
    (b_zip : PySem.W.nsIn K mainGlobals "zip" = some none)
    (b_bool : PySem.W.nsIn K mainGlobals "bool" = some none)
    (b_str : PySem.W.nsIn K mainGlobals "str" = some none)
    (b_set : PySem.W.nsIn K mainGlobals "set" = some none)
    (e_Errs : ∃ fd, Err K mg "Errs" "Errs.__init__" "number" ["self", "number"] s_Errs___init C_Errs fI_Errs fd) :
    ∃ fd : FuncData, (∀ (s : Shared) (u : Value), BindsTo s fd ⟨[u], []⟩ [("_law_script", u)]) ∧ ∀ base : Heap, K.In base → base.Ns mainGlobals mg → FnQ P w K mg base CX0 8 fa fd ["_law_script"] (spLaw K) := by
  have n {x : Str} (z : PySem.W.nsIn K mainGlobals x = some none) : mg x = none := PySem.W.mg_none_of X G z
  have bi : Bi mg := ⟨n b_len, n b_abs, n b_max, n b_min, n b_repr, n b_int, n b_tuple, n b_list, n b_dict, n b_isinstance, n b_sorted, n b_sum, n b_all, n b_any, n b_range, n b_enumerate, n b_zip, n b_bool, n b_str, n b_set⟩
  obtain ⟨fd_l_bag, D_l_bag⟩ := def_mk (ps := ["_law_script"]) X G a_l_bag d_l_bag fun _ _ _ _ _ _ us hl => match us, hl with | [_], _ => rfl
  obtain ⟨fd_l_take, D_l_take⟩ := def_mk (ps := ["_law_bag_here", "_law_many"]) X G a_l_take d_l_take fun _ _ _ _ _ _ us hl => match us, hl with | [_, _], _ => rfl
  obtain ⟨fd_l_alike, D_l_alike⟩ := def_mk (ps := ["_law_found", "_law_due"]) X G a_l_alike d_l_alike fun _ _ _ _ _ _ us hl => match us, hl with | [_, _], _ => rfl
  obtain ⟨fd_l_one, D_l_one⟩ := def_mk (ps := ["_law_bag_here", "_law_things"]) X G a_l_one d_l_one fun _ _ _ _ _ _ us hl => match us, hl with | [_, _], _ => rfl
  obtain ⟨fd_l_number, D_l_number⟩ := def_mk (ps := ["_law_bag_here"]) X G a_l_number d_l_number fun _ _ _ _ _ _ us hl => match us, hl with | [_], _ => rfl
  obtain ⟨fd_l_step, D_l_step⟩ := def_mk (ps := ["_law_bag_here"]) X G a_l_step d_l_step fun _ _ _ _ _ _ us hl => match us, hl with | [_], _ => rfl
  obtain ⟨fd_l_led, D_l_led⟩ := def_mk (ps := ["_law_steps", "_law_number_here"]) X G a_l_led d_l_led fun _ _ _ _ _ _ us hl => match us, hl with | [_, _], _ => rfl
  obtain ⟨fd_l_steps_drawn, D_l_steps_drawn⟩ := def_mk (ps := ["_law_bag_here", "_law_most"]) X G a_l_steps_drawn d_l_steps_drawn fun _ _ _ _ _ _ us hl => match us, hl with | [_, _], _ => rfl
  obtain ⟨fd_l_erred, D_l_erred⟩ := def_mk (ps := ["_law_steps", "_law_number_here"]) X G a_l_erred d_l_erred fun _ _ _ _ _ _ us hl => match us, hl with | [_, _], _ => rfl
  obtain ⟨fd_l_heard, D_l_heard⟩ := def_mk (ps := ["_law_way", "_law_steps", "_law_number_here"]) X G a_l_heard d_l_heard fun _ _ _ _ _ _ us hl => match us, hl with | [_, _, _], _ => rfl
  obtain ⟨fd_goal_of, D_goal_of⟩ := def_mk (ps := ["entries", "number"]) X G a_goal_of d_goal_of fun _ _ _ _ _ _ us hl => match us, hl with | [_, _], _ => rfl
  obtain ⟨fd_steps_on, D_steps_on⟩ := def_mk (ps := ["steps", "number"]) X G a_steps_on d_steps_on fun _ _ _ _ _ _ us hl => match us, hl with | [_, _], _ => rfl
  obtain ⟨fd_step_on, D_step_on⟩ := def_mk (ps := ["step", "number"]) X G a_step_on d_step_on fun _ _ _ _ _ _ us hl => match us, hl with | [_, _], _ => rfl
  obtain ⟨fd_law, D_law⟩ := def_mk (ps := ["_law_script"]) X G a_law d_law fun _ _ _ _ _ _ us hl => match us, hl with | [_], _ => rfl
  obtain ⟨fdI_Errs, e_Errs⟩ := e_Errs
  have e := hfa.symm.trans D_law.mg
  cases e
  refine ⟨fd_law, fun s u => ?_, fun base _ _ => ?_⟩
  · obtain ⟨_, _, _, _, _, _, _, _, _, rfl, _⟩ := D_law.fn.ex
    exact .of_eq rfl
  have Gb := bag_sealed (ok_bagI (P := P) (w := w) (base := base) D_l_bag bi)
  have Gt := take_sealed (ok_takeI (P := P) (w := w) (base := base) D_l_take bi)
  have Go := ok_one (P := P) (w := w) (base := base) D_l_one bi D_l_take Gt
  have Gn := ok_number (P := P) (w := w) (base := base) D_l_number bi D_l_take Gt
  have Gs := ok_step (P := P) (w := w) (base := base) D_l_step bi D_l_take Gt D_l_one Go D_l_number Gn
  have Gd := ok_steps_drawn (P := P) (w := w) (base := base) D_l_steps_drawn bi D_l_take Gt D_l_step Gs
  have Gi := ok_init (P := P) (w := w) (mg := mg) (base := base) e_Errs
  have Gg := ok_goal_of (P := P) (w := w) (base := base) D_goal_of bi e_Errs Gi
  have Gps := ok_steps_on (P := P) (w := w) (base := base) D_steps_on bi e_Errs Gi D_goal_of Gg
  have Gp := ok_step_on (P := P) (w := w) (base := base) D_step_on bi D_steps_on Gps
  have Ga := ok_alike (P := P) (w := w) (base := base) D_l_alike bi
  have Gl := ok_led (P := P) (w := w) (base := base) D_l_led bi
  have Ge := ok_erred (P := P) (w := w) (base := base) D_l_erred bi D_l_led Gl
  have Gh := ok_heard (P := P) (w := w) (base := base) D_l_heard bi e_Errs D_step_on Gp D_steps_on Gps
  exact ok_law D_law bi D_l_bag Gb D_l_take Gt D_l_number Gn D_l_steps_drawn Gd D_l_led Gl D_l_erred Ge D_l_alike Ga D_l_heard Gh D_steps_on Gps
end K17
open PySem PySem.W PyProof.Rows
set_option maxRecDepth 100000 in
set_option maxHeartbeats 0 in
theorem PySem.Challenge.cw_refusedahead_k17_numbers_led_on_holds : PySem.Challenge.rw_refusedahead_k17_numbers_led_on.Holds := by
  w_on; o_law; k_head; (case hw => w_witness2)
  k_fill
  refine Gx.walkQ (l := PySem.Challenge.rw_refusedahead_k17_numbers_led_on) (n := 63) (k := 8) (x := "_law_script") (CX := fun _ => L2.CX0) (sp := fun w => K17.spLaw (_ : PySem.W.Frag)) rfl (by decide) rfl ⟨rfl, by decide, by decide⟩
    (fun w h Y => PySem.W.kIn_of Y) ?F (fun _ _ a ns hl _ hS => ⟨a, ns, rfl, hS, hl, fun _ => rfl⟩) (fun _ _ _ _ _ z => z)
  case F =>
    intro w mg fa h KX G hmg
    refine' K17.all_ok KX G hmg ?a_l_bag ?d_l_bag ?a_l_take ?d_l_take ?a_l_alike ?d_l_alike ?a_l_one ?d_l_one ?a_l_number ?d_l_number ?a_l_step ?d_l_step ?a_l_led ?d_l_led ?a_l_steps_drawn ?d_l_steps_drawn ?a_l_erred ?d_l_erred ?a_l_heard ?d_l_heard ?a_goal_of ?d_goal_of ?a_steps_on ?d_steps_on ?a_step_on ?d_step_on ?a_law ?d_law ?b_len ?b_abs ?b_max ?b_min ?b_repr ?b_int ?b_tuple ?b_list ?b_dict ?b_isinstance ?b_sorted ?b_sum ?b_all ?b_any ?b_range ?b_enumerate ?b_zip ?b_bool ?b_str ?b_set ?e_Errs
    (case a_l_bag => k_is)
    (case d_l_bag => refine' K17.isdef_mk ?l ?c ?k; (case l => k_is); (case c => k_is); (case k => k_is))
    (case a_l_take => k_is)
    (case d_l_take => refine' K17.isdef_mk ?l ?c ?k; (case l => k_is); (case c => k_is); (case k => k_is))
    (case a_l_alike => k_is)
    (case d_l_alike => refine' K17.isdef_mk ?l ?c ?k; (case l => k_is); (case c => k_is); (case k => k_is))
    (case a_l_one => k_is)
    (case d_l_one => refine' K17.isdef_mk ?l ?c ?k; (case l => k_is); (case c => k_is); (case k => k_is))
    (case a_l_number => k_is)
    (case d_l_number => refine' K17.isdef_mk ?l ?c ?k; (case l => k_is); (case c => k_is); (case k => k_is))
    (case a_l_step => k_is)
    (case d_l_step => refine' K17.isdef_mk ?l ?c ?k; (case l => k_is); (case c => k_is); (case k => k_is))
    (case a_l_led => k_is)
    (case d_l_led => refine' K17.isdef_mk ?l ?c ?k; (case l => k_is); (case c => k_is); (case k => k_is))
    (case a_l_steps_drawn => k_is)
    (case d_l_steps_drawn => refine' K17.isdef_mk ?l ?c ?k; (case l => k_is); (case c => k_is); (case k => k_is))
    (case a_l_erred => k_is)
    (case d_l_erred => refine' K17.isdef_mk ?l ?c ?k; (case l => k_is); (case c => k_is); (case k => k_is))
    (case a_l_heard => k_is)
    (case d_l_heard => refine' K17.isdef_mk ?l ?c ?k; (case l => k_is); (case c => k_is); (case k => k_is))
    (case a_goal_of => k_is)
    (case d_goal_of => refine' K17.isdef_mk ?l ?c ?k; (case l => k_is); (case c => k_is); (case k => k_is))
    (case a_steps_on => k_is)
    (case d_steps_on => refine' K17.isdef_mk ?l ?c ?k; (case l => k_is); (case c => k_is); (case k => k_is))
    (case a_step_on => k_is)
    (case d_step_on => refine' K17.isdef_mk ?l ?c ?k; (case l => k_is); (case c => k_is); (case k => k_is))
    (case a_law => k_is)
    (case d_law => refine' K17.isdef_mk ?l ?c ?k; (case l => k_is); (case c => k_is); (case k => k_is))
    (case b_len => k_is)
    (case b_abs => k_is)
    (case b_max => k_is)
    (case b_min => k_is)
    (case b_repr => k_is)
    (case b_int => k_is)
    (case b_tuple => k_is)
    (case b_list => k_is)
    (case b_dict => k_is)
    (case b_isinstance => k_is)
    (case b_sorted => k_is)
    (case b_sum => k_is)
    (case b_all => k_is)
    (case b_any => k_is)
    (case b_range => k_is)
    (case b_enumerate => k_is)
    (case b_zip => k_is)
    (case b_bool => k_is)
    (case b_str => k_is)
    (case b_set => k_is)
    (case e_Errs => refine' K17.err_mk KX G ?aC ?cC ?sa ?ga ?gg ?no ?iC ?tI ?kC ?eC ?tC ?hC ?oC ?sC ?d (fun _ _ _ _ _ _ us hl => match us, hl with | [_, _], _ => rfl); (case aC => k_is); (case cC => refine' K17.cls_mk ?l ?v; (case l => k_is); (case v => decide +kernel)); (case sa => k_is); (case ga => k_is); (case gg => k_is); (case no => k_is); (case iC => k_is); (case tI => k_is); (case kC => k_is); (case eC => k_is); (case tC => k_is); (case hC => k_is); (case oC => k_is); (case sC => first | rfl | k_is); (case d => refine' K17.isdef_mk ?l ?c ?k; (case l => k_is); (case c => k_is); (case k => k_is)))

