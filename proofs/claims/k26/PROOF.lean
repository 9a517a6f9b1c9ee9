import PyProof.Rows.All
import Wide.All
import OpenK.AllK
import Wide.FinOn
import PyProof.ReprRoads
import HandS.ForMost
import HandS.ForExc
import HandS.Evl
import HandS.Wide
import HandS.Conv
import HandS.More
import HandS.WideBits
import HandS.ExcInit
import HandS.ExcField
import HandS.IsInst
import KE.KDictPairs
import KE.GoesMore
import HandS.TupMul
import HandS.TryOnly
import HandS.TupAny
import HandS.ListItems
import HandS.Style
import HandS.Small
import PySem.Challenge.RW_refusedahead_k26_contents_kept
set_option Elab.async false
set_option linter.all false
set_option maxRecDepth 100000
set_option maxHeartbeats 2000000
/-! Calls made while no repr is under way (needed for repr); repr and == of data; wide division. -/
namespace Gx
open PySem PySem.Spec PyProof.Rows L2
abbrev Quiet (A : Around) : Prop := A.guards = some []
structure FnQ (P : Program) (w : World) (K : PySem.W.Frag) (mg : Str → Option Value)
    (base : Heap) (CX : CXT) (k : Nat) (f : Addr) (fd : FuncData) (ps : List Str) (sp : Sp) : Prop where
  argc : ∀ vs H Q E, sp vs H Q E → vs.length = ps.length
  goes : ∀ (A : Around) (outer : List Env) (s : Shared) (H : Hp) (args : Args) (us : List Value)
    (vs : List V) (Q : VK) (E : XK), Room k A → Quiet A → Env0 P w K mg base A outer s H →
    BindsTo s fd args (ps.zip us) → Vals vs us → sp vs H Q E →
    codeAny (model P w) A (.call (.ref f) args) (CR CX outer P w H s Q E) s
section
variable {P : Program} {w : World} {K : PySem.W.Frag} {mg : Str → Option Value} {base : Heap} {CX : CXT}
/-- a def whose promise holds at any call holds it at a quiet one -/
theorem FnQ.of {k : Nat} {f : Addr} {fd : FuncData} {ps : List Str} {sp : Sp}
    (G : FnOk P w K mg base CX k f fd ps sp) : FnQ P w K mg base CX k f fd ps sp :=
  ⟨G.len, fun A o s H ar us vs Q E r _ => G.run A o s H ar us vs Q E r⟩
theorem FnQ.mono {j k : Nat} {f : Addr} {fd : FuncData} {ps : List Str} {sp : Sp}
    (G : FnQ P w K mg base CX j f fd ps sp) (h : j ≤ k) : FnQ P w K mg base CX k f fd ps sp :=
  ⟨G.argc, fun A o s H ar us vs Q E r => G.goes A o s H ar us vs Q E (r.mono h)⟩
/-- a def's body, walked at quiet calls alone -/
theorem fnq_of {x qual : Str} {st : Stmt} {f : Addr} {fd : FuncData} {N ps : List Str} {k : Nat} {sp : Sp}
    (F : Fun K x qual st f fd) (S : FnScope N ps (defScope st))
    (len : ∀ vs H Q E, sp vs H Q E → vs.length = ps.length)
    (walk : ∀ (cdv : Value) (A : Around) (outer : List Env) (s : Shared) (H : Hp) (vs : List V) (Q : VK) (E : XK),
      Room k (A.deeper (envOfC qual (defScope st) s.heap.objs.size f cdv)) → Quiet A → sp vs H Q E →
      ∃ t, PSs (cxOf CX P w K mg base N qual (defScope st) f cdv A outer s H E) (defBody st) t ∧
        t { nx := fun _ H' => Q .non H', rt := Q } (start N vs) H) :
    FnQ P w K mg base CX (k + 1) f fd ps sp := by
  obtain ⟨oc, od, kV, doc, pm, an, cdv, ct, osl, rfl, lk, hcd⟩ := F.ex
  refine ⟨len, fun A o s H ar us vs Q E rm qu e0 bd rv hs => ?_⟩
  have argl := len _ _ _ _ hs
  have inK : K.In s.heap := e0.mod.kin.keeps fun b ob z => (e0.bs b ob z).1
  have nolim : s.heap.NoLimit := e0.mod.nolimit.keeps fun b ob z => (e0.bs b ob z).1
  refine codeAny_call_function rm.depth (inK _ _ lk) rfl S.co S.gen rfl
    (PySem.W.codeRec_of inK hcd) (bd _ _ _ _ ?_)
  refine wpAny_newFunctionEnv_cells S.kind (fun y hy => ?_) fun en hen s1 ic => ?_
  · obtain ⟨nm, vl⟩ := y
    rcases S.par nm (List.of_mem_zip hy).1 with loc | cel
    · exact .inl loc
    · exact .inr ⟨cel, PySem.W.cellsFrom_some _ _ _ (.inl cel)⟩
  · subst hen
    refine ⟨nolim.keeps ic.toInCall.keep, codeAny_func ?_⟩
    obtain ⟨t, pt, ht⟩ := walk cdv A o s H vs Q E (rm.deeper _) qu hs
    have I := inv_start (CX := CX) (E := E) S rm.hd e0 argl rv ic
    refine wpAny_mono (pt.run [] s1 (start N vs) H _ I ht) (fun fl s' hq => ?_) fun _ _ hq => hq
    cases fl with
    | brk => obtain ⟨_, _, _, no⟩ := hq; exact no.elim
    | cont => obtain ⟨_, _, _, no⟩ := hq; exact no.elim
    | next => obtain ⟨σ, H', J, q⟩ := hq; exact ⟨.non, H', J.os, J.bare, J.base, J.hok, rfl, q⟩
    | ret u => obtain ⟨v, σ, H', J, r, q⟩ := hq; exact ⟨v, H', J.os, J.bare, J.base, J.hok, r, q⟩
end
section
variable {X : Cx} {CX : CXT} {k : Nat} {f : Addr} {fd : FuncData} {ps : List Str} {sp : Sp} {E : XK}
  {x : Str} {p pos : Pos} {e : Expr} {es : List Expr} {t : TA}
/-- f(..) at a quiet place -/
theorem pe_callQ (G : FnQ X.prog X.w X.K X.mg X.base CX k f fd ps sp) (qu : Quiet X.A) (rm : Room k X.A)
    (hg : Gl X x) (hm : X.mg x = some (.ref f)) (hk : PySem.W.keepIn X.K (.ref f) = true)
    (bd : Binds X.K fd ps []) (pass : Passes CX X E) (ha : PA X (e :: es) t)
    (hdb : (x == ("__debug__" : Str)) = false := by decide)
    (he : starEach (e :: es) X.env = (false, eval e X.env) :: starEach es X.env := by rfl)
    (hpl : (backTo pos (starEach es X.env)).any (·.1) = false := by rfl) :
    PE X (.Call (.Name x p) (e :: es) [] pos) (tCall sp [] E t) := by
  constructor
  intro pins s σ H Q I h
  refine wpAny_Call_Name_kw (ld_glob I hg hm ?_ hdb)
  refine PySem.W.callWith_K (h₀ := X.base) I.ok.mod.kin hk (thn (ha.run pos pins s σ H _ I h) ?_) he hpl
  rintro us s1 ⟨vs, H1, I1, rv, q⟩
  refine ⟨I1.kIn, wpAny_call (codeAny_mono (G.goes X.A X.stack s1 H1 ⟨us, []⟩ us vs Q E rm qu I1.env0 ?_ rv ?_) ?_)⟩
  · have b := bd s1 us I1.kIn (by rw [List.append_nil, ← rv.length, ← List.append_nil vs]; exact G.argc _ _ _ _ q)
    rwa [List.append_nil] at b
  · rwa [List.append_nil] at q
  · intro r s' hq
    match r, hq with
    | .error z, hq => exact pass pins σ H1 s1 z s' I1 hq
    | .ok (.ret u), hq => exact I1.after hq
end
end Gx

set_option Elab.async false
set_option linter.all false
set_option maxRecDepth 100000
set_option maxHeartbeats 2000000
namespace Gx
open PySem PySem.Spec PyProof.Rows L2
/-- the law's call from outside: nothing is tracked but the script, where that is no object of the module -/
theorem law_goes {P : Program} {w : World} {K : PySem.W.Frag} {mg mb : Str → Option Value} {CX : CXT} {k : Nat}
    {fa a : Addr} {fd : FuncData} {x : Str} {sp : Sp} {z : Shared} {vs : List Value} {ns : List Int}
    (inK : K.In z.heap) (gl : z.heap.Ns mainGlobals mg) (bl : z.heap.Ns builtinsNs mb)
    (bb : ∀ x : Str, x ≠ "__name__" → mb x = bootBuiltins x) (lim : z.heap.NoLimit) (gs : z.gens = #[])
    (ha : z.heap.get? a = some { cls := .type "list", data := .seq vs.toArray }) (hi : IntsAre vs ns)
    (hl : ns.length ≤ sizeLine) (rm : Room k callerA)
    (G : ∀ base : Heap, K.In base → base.Ns mainGlobals mg → FnQ P w K mg base CX k fa fd [x] sp)
    (bd : ∀ (s : Shared) (u : Value), BindsTo s fd ⟨[u], []⟩ [(x, u)])
    (hsp : ∀ H : Hp, Only H → SqL K H a (ns.map V.int) → sp [.ref a] H (fun v _ => v = .bl true) fun _ _ _ => False)
    (no : ∀ H e s', CX [] H z (fun _ _ _ => False) e s' → False) :
    codeAny (model P w) callerA (.call (.ref fa) ⟨[.ref a], []⟩)
      (fun r s' => r = .ok (.ret (.bool true)) ∧ OldK z.heap s'.heap ∧ s'.os = z.os ∧ AllBare s'.gens) z := by
  have rv := vals_ints hi
  have go : ∀ H : Hp, Only H → SqL K H a (ns.map V.int) → HOk P w H z.heap →
      (∀ b u, H b = some u → b = a ∧ K.lookup a = none) →
      codeAny (model P w) callerA (.call (.ref fa) ⟨[.ref a], []⟩)
        (fun r s' => r = .ok (.ret (.bool true)) ∧ OldK z.heap s'.heap ∧ s'.os = z.os ∧ AllBare s'.gens) z := by
    intro H on sq ok at_
    -- a namespace is no list: it is not tracked
    have free : ∀ (b : Addr) (o : Obj), z.heap.get? b = some o → (∀ u n, o.data ≠ .seq u n) → H b = none := by
      intro b o e d
      rcases hb : H b with _ | u
      · rfl
      · obtain ⟨rfl, _⟩ := at_ b u hb
        rw [ha] at e
        cases e
        exact absurd rfl (d _ _)
    have ns_ : ∀ (b : Addr) (m : Str → Option Value), z.heap.Ns b m → (hidT z.heap H).Ns b m := by
      rintro b m ⟨o, es, ep, e, d, r⟩
      exact ⟨o, es, ep, hidT_get e (free b o e fun u n q => by rw [d] at q; cases q), d, r⟩
    have kin : K.In (hidT z.heap H) := by
      intro b o e
      refine hidT_get (inK b o e) ?_
      rcases hb : H b with _ | u
      · rfl
      · obtain ⟨rfl, q⟩ := at_ b u hb
        rw [q] at e
        cases e
    obtain ⟨mc, l1, l2⟩ := lim
    have md : Mod K mg (hidT z.heap H) := ⟨kin, ns_ _ _ gl, ⟨mb, ns_ _ _ bl, bb⟩, ⟨mc, ns_ _ _ l1, l2⟩⟩
    have e0 : Env0 P w K mg (hidT z.heap H) callerA [] z H :=
      ⟨rfl, md, fun _ _ => of_hidT, Nat.le_of_eq (hidT_size _ _), trivial, (fun b (hb : b ∈ ([] : List Addr)) => (List.not_mem_nil hb).elim), ok, .of_eq gs⟩
    refine codeAny_mono ((G _ kin (ns_ _ _ gl)).goes callerA [] z H ⟨[.ref a], []⟩ [.ref a] [.ref a] _ _
      rm rfl e0 (bd z (.ref a)) (.cons rfl .nil) (hsp H on sq)) ?_
    intro r s' h
    match r, h with
    | .error e, h => exact (no H e s' h).elim
    | .ok (.ret u), h =>
      obtain ⟨v, H', os, bare, un, ok', r', q⟩ := h
      subst q
      obtain rfl : u = Value.bool true := r'
      refine ⟨rfl, OldK.of_keep fun b o e => ?_, os, bare⟩
      rcases hb : H b with _ | u
      · exact un.keep b o e hb (fun q => by cases q) (fun q => by cases q)
      · rcases on b with q | ⟨ob, xs, q⟩
        · rw [hb] at q; cases q
        · obtain ⟨e1, _⟩ := ok b _ q
          obtain ⟨e2, _⟩ := ok' b _ (un.frzs b ob _ q)
          rw [e] at e1
          cases e1
          exact e2
  rcases hk : K.lookup a with _ | o
  · let H : Hp := fun b => if b = a then some (.frz { cls := .type "list", data := .seq vs.toArray } (.lst (ns.map V.int))) else none
    have Ha : H a = some (.frz { cls := .type "list", data := .seq vs.toArray } (.lst (ns.map V.int))) := if_pos rfl
    have Hn : ∀ b, b ≠ a → H b = none := fun b hb => if_neg hb
    refine go H (fun b => ?_) (.inl (.inr ⟨_, Ha⟩)) (fun b u e => ?_) (fun b u e => ?_)
    · by_cases hb : b = a
      · subst hb; exact .inr ⟨_, _, Ha⟩
      · exact .inl (Hn b hb)
    · by_cases hb : b = a
      · subst hb
        rw [Ha] at e
        cases e
        exact ⟨ha, by rw [List.length_map]; exact hl, vs, _, rv, ha⟩
      · rw [Hn b hb] at e; cases e
    · by_cases hb : b = a
      · exact ⟨hb, hk⟩
      · rw [Hn b hb] at e; cases e
  · have e := inK a o hk
    rw [ha] at e
    cases e
    refine go (fun _ => none) (fun _ => .inl rfl)
      (.inr ⟨_, vs.toArray, _, hk, rfl, rfl, rfl, by rw [List.size_toArray, hi.length]; exact hl, by simpa using rv⟩)
      (fun b u e => by cases e) (fun b u e => by cases e)
theorem walkQ {l : PySem.W.OpenLaw} {n k : Nat} {q : Program} {loose : List Str}
    {XP : (Str → Option Value) → Heap → Prop} {YP : World → Heap → Prop} {d : DefRec}
    {K : Params → PySem.W.Frag} {CX : World → CXT} {sp : World → Sp} {x : Str}
    (hn : l.most = some n) (hn2 : n ≤ sizeLine) (hdf : d.params.defaults = []) (rm : Room k callerA)
    (hY : ∀ (w : World) (h : Heap), YP w h → (K w.params).In h)
    (F : ∀ (w : World) (mg : Str → Option Value) (fa : Addr) (h : Heap), (K w.params).In h →
      h.Ns mainGlobals mg → mg d.name = some (.ref fa) →
      ∃ fd : FuncData, (∀ (s : Shared) (u : Value), BindsTo s fd ⟨[u], []⟩ [(x, u)]) ∧
        ∀ base : Heap, (K w.params).In base → base.Ns mainGlobals mg →
          FnQ l.prog w (K w.params) mg base (CX w) k fa fd [x] (sp w))
    (hsp : ∀ (w : World) (H : Hp) (a : Addr) (ns : List Int), ns.length ≤ n → Only H →
      SqL (K w.params) H a (ns.map V.int) → sp w [.ref a] H (fun v _ => v = .bl true) fun _ _ _ => False)
    (hCX : ∀ (w : World) (H : Hp) (s : Shared) (e : Value) (s' : Shared), CX w [] H s (fun _ _ _ => False) e s' → False) :
    PySem.W.WalkO q loose XP YP l.row.toRowW d [] (fun f vs => PySem.call f vs) := by
  refine Att.attach_call hn hdf ?_
  intro w s₀ z mg mb fa o pm cd doc a vs ns G Y ho hd hcd hmg hobj hints hlen hg
  obtain ⟨fd, hb, hF⟩ := F w mg fa _ (hY w _ Y) G.T.g hmg
  exact law_goes (hY w _ Y) G.T.g G.T.b G.T.builtins G.T.nolimit hg hobj hints (Nat.le_trans hlen hn2) rm hF hb
    (fun H hO hS => hsp w H a ns hlen hO hS) fun H e s' => hCX w H z e s'
end Gx

set_option Elab.async false
set_option linter.all false
set_option maxRecDepth 100000
set_option maxHeartbeats 2000000
namespace Gx
open PySem PySem.Spec PyProof.Rows L2
/-- what a first clause 'except x as n' that takes every exception of the body wishes of it -/
def wFst (K : PySem.W.Frag) (c : Value) (i : Nat) (ts : Addr → Value → Option Addr → TS) (D : Ends) : WX :=
  fun cls d σ H => PySem.W.exmOne K cls c = some true ∧ ∀ a, H a = none →
    ts a cls d ⟨fun σ' H' => D.nx (σ'.set i none) H', D.rt, fun σ' H' => D.bk (σ'.set i none) H',
      fun σ' H' => D.ct (σ'.set i none) H'⟩ (σ.set i (some (.ref a))) H
section
variable {X : Cx} {x n : Str} {c : Value} {i : Nat} {body suite : List Stmt} {b₀ : Stmt} {np pos pos' : Pos}
  {tb : WX → TS} {ts : Addr → Value → Option Addr → TS} {more : List ExceptHandler}
/-- try: body / except x as n: suite / further clauses, which are never looked at -/
theorem ps_try_fst (hs : X.stack = X.env :: X.outer) (hf : X.env.frame = some X.env.locals) (hN : X.N.Nodup)
    (hi : X.N[i]? = some n) (hln : X.env.kindOf n = some .local) (hc : Names X x c)
    (hb : ∀ (W : WX) (pn : List (Addr × Obj)) (xe : Value → Shared → Prop), L2.Takes (X.tr pn xe) W →
      PassesOwn (model X.prog X.w) X.A X.env xe → PSs (X.tr pn xe) body (tb W))
    (hsu : ∀ (a : Addr) (oe : Obj) (cls : Value) (d : Option Addr) (pn : List (Addr × Obj)), Zc cls d oe →
      (∃ vs, oe.data = .fields vs) → PSs (X.suite a ((a, oe) :: pn)) (b₀ :: suite) (ts a cls d)) :
    PS X (.Try body (.ExceptHandler (some (.Name x np)) (some n) (b₀ :: suite) pos' :: more) [] [] pos)
      (fun D σ H => tb (wFst X.K c i ts D) D σ H) := by
  constructor
  intro pins s σ H D I h
  have ok := I.ok
  have frs_ : X.A.frames = some (X.env :: X.outer) := by rw [ok.frames, hs]
  refine wpAny_Try_except ?_
  refine wpAny_mono ((hb (wFst X.K c i ts D) (X.pn ++ pins) _ ?tk PassesOwn.looking).run [] s σ H D (I.toTry _) h) ?_
    fun e s1 he => he
  case tk =>
    rintro u z ⟨a, B, sI, ps, σ1, H1, cls, d, rfl, J', nb, up, sky, na, os, ag, hm, hy⟩
    have J : Inv X pins σ1 H1 sI := J'.ofTry ok
    rw [show (X.tr (X.pn ++ pins) _).stack = X.env :: X.outer from hs] at sky
    show wpAny (model X.prog X.w) X.A (noteFrame (.ref a) X.env) _ _ _
    refine Sky.land Zc.steady frs_ hf sky fun h3 fl up3 => ?_
    have J3 : Inv X pins σ1 H1 { z with heap := h3 } := J.landed nb fl.1 (up.trans up3) os ag
    obtain ⟨oe, vs, he, hz, hd⟩ := fl.there
    -- an exception is no frame
    have nfr : a ∉ frs (X.env :: X.outer) := by
      intro hin
      obtain ⟨_, o', e', hnf⟩ := fl.2.2.1.mem hin
      rw [he] at e'
      cases e'
      exact hnf _ hd
    have nL : a ≠ X.env.locals := fun q => nfr (List.mem_filterMap.mpr ⟨X.env, List.mem_cons_self, by rw [hf, q]⟩)
    have nF : a ∉ X.fs := fun hin => by
      obtain ⟨e, q1, q2⟩ := List.mem_filterMap.mp hin
      exact nfr (List.mem_filterMap.mpr ⟨e, List.mem_cons_of_mem _ q1, q2⟩)
    have S3 := J3.suite he hd na nL nF
    refine wpAny_handleBy_cons (codeAny_handlers_test ?_) (by intro q; cases q)
    have lt : PySem.W.Looks (model X.prog X.w) h3 (typeOf (.ref a)) cls :=
      fun A Q E s k q => wpAny_typeOf_ref (k _ _ he) (by rw [hz.1]; exact q)
    have lm := PySem.W.exm_one (M := model X.prog X.w) J3.kIn lt hm
    have nm : ∀ {Q : Value → Shared → Prop} {E : Value → Shared → Prop}, Q c { z with heap := h3 } →
        wpAny (model X.prog X.w) (X.A.mark (some (.ref a))) (eval (.Name x np) X.env) Q E { z with heap := h3 } := by
      intro Q E q
      rcases hc with ⟨g1, g2, g3 | ⟨g3, g4, g5⟩⟩
      · exact ld_glob (X := X.suite a ((a, oe) :: (X.pn ++ pins))) S3 g1 g3 q g2
      · exact ld_blt (X := X.suite a ((a, oe) :: (X.pn ++ pins))) S3 g1 g3 g4 q g5 g2
    refine nm (lm.here (codeAny_handlers_suite_as ?_))
    refine HandSPX.lands_againZ fl fun h4 fl4 up4 => ?_
    have J4 : Inv X pins σ1 H1 { z with heap := h4 } := J.landed nb fl4.1 ((up.trans up3).trans up4) os ag
    obtain ⟨oe4, vs4, he4, hz4, hd4⟩ := fl4.there
    have S4 := J4.suite he4 hd4 na nL nF
    refine store_ok (X := X.suite a ((a, oe4) :: (X.pn ++ pins))) (v := .ref a) S4 hN hi (.inl hln) rfl ?_ (.inr hln)
    intro s5 S5
    refine wpAny_mono ((hsu a oe4 cls d (X.pn ++ pins) hz4 ⟨_, hd4⟩).run [] s5 _ H1 _ S5 (hy a na)) ?_ fun _ _ q => q.elim
    intro f s6 hsp
    have fin : ∀ {σ6 : L2.St} {H6 : Hp} {Q : Shared → Prop}, Inv (X.suite a ((a, oe4) :: (X.pn ++ pins))) [] σ6 H6 s6 →
        (∀ s7, Inv X pins (σ6.set i none) H6 s7 → Q s7) →
        wpAny (model X.prog X.w) X.A (do bindName X.env n .none; unbindBehindTheSuite X.env n pos')
          (fun _ s7 => Q s7) X.xe s6 := fun S6 q => gone_ok (S6.unsuite ok) hN hi hln q
    match f, hsp with
    | .next, ⟨σ6, H6, S6, q⟩ => exact fin S6 fun s7 J7 => ⟨_, _, J7, q⟩
    | .brk, ⟨σ6, H6, S6, q⟩ => exact fin S6 fun s7 J7 => ⟨_, _, J7, q⟩
    | .cont, ⟨σ6, H6, S6, q⟩ => exact fin S6 fun s7 J7 => ⟨_, _, J7, q⟩
    | .ret u, ⟨v, σ6, H6, S6, r, q⟩ => exact fin S6 fun s7 J7 => ⟨_, _, _, J7, r, q⟩
  · intro f s1 hsp
    match f, hsp with
    | .next, ⟨σ', H', J', q⟩ => exact wpAny_execs_nil ⟨σ', H', J'.ofTry ok, q⟩
    | .brk, ⟨σ', H', J', q⟩ => exact ⟨σ', H', J'.ofTry ok, q⟩
    | .cont, ⟨σ', H', J', q⟩ => exact ⟨σ', H', J'.ofTry ok, q⟩
    | .ret u, ⟨v, σ', H', J', r, q⟩ => exact ⟨v, σ', H', J'.ofTry ok, r, q⟩
end
end Gx

set_option Elab.async false
set_option linter.all false
set_option maxRecDepth 100000
set_option maxHeartbeats 2000000
namespace Gx
open PySem PySem.Spec PyProof.Rows L2 Evl
section
variable {K : PySem.W.Frag} {H H' : Hp}
mutual
theorem dp_ex (e : Ex H H') : ∀ (d : PyData) (v : V), Dp K H v d → Dp K H' v d
  | .none, _, h => by cases h; exact .non
  | .bool b, _, h => by cases h; exact .bl b
  | .int i, _, h => by cases h; exact .int i
  | .str x, _, h => by cases h; exact .str x
  | .list ds, _, h => by
    cases h with
    | lst hs ha => exact .lst (ex_l e hs) (dpAll_ex e ds _ ha)
  | .tuple ds, _, h => by
    cases h with
    | tup hs ha => exact .tup (ex_t e hs) (dpAll_ex e ds _ ha)
  | .dict _, _, h => by cases h
theorem dpAll_ex (e : Ex H H') : ∀ (ds : List PyData) (vs : List V), DpAll K H vs ds → DpAll K H' vs ds
  | [], _, h => by cases h; exact .nil
  | d :: ds, _, h => by
    cases h with
    | cons h1 h2 => exact .cons (dp_ex e d _ h1) (dpAll_ex e ds _ h2)
end
theorem _root_.L2.Dp.to {v : V} {d : PyData} (h : Dp K H v d) (e : Ex H H') : Dp K H' v d := dp_ex e d v h
theorem _root_.L2.DpAll.to {vs : List V} {ds : List PyData} (h : DpAll K H vs ds) (e : Ex H H') : DpAll K H' vs ds := dpAll_ex e ds vs h
theorem _root_.L2.Dp.tup_inv {v : V} {ds : List PyData} (h : Dp K H v (.tuple ds)) : ∃ a xs, v = .ref a ∧ SqT K H a xs ∧ DpAll K H xs ds := by
  cases h with
  | tup hs ha => exact ⟨_, _, rfl, hs, ha⟩
theorem _root_.L2.Dp.lst_inv {v : V} {ds : List PyData} (h : Dp K H v (.list ds)) : ∃ a xs, v = .ref a ∧ SqL K H a xs ∧ DpAll K H xs ds := by
  cases h with
  | lst hs ha => exact ⟨_, _, rfl, hs, ha⟩
theorem _root_.L2.DpAll.len {vs : List V} {ds : List PyData} (h : DpAll K H vs ds) : vs.length = ds.length := by
  induction ds generalizing vs with
  | nil => cases h; rfl
  | cons d ds ih => cases h with | cons h1 h2 => simp [ih h2]
theorem _root_.L2.DpAll.get {vs : List V} {ds : List PyData} (h : DpAll K H vs ds) {i : Nat} {v : V} (e : vs[i]? = some v) : ∃ d, ds[i]? = some d ∧ Dp K H v d := by
  induction ds generalizing vs i with
  | nil => cases h; simp at e
  | cons d ds ih =>
    cases h with
    | cons h1 h2 =>
      cases i with
      | zero => simp at e; subst e; exact ⟨d, by simp, h1⟩
      | succ i => obtain ⟨d', q1, q2⟩ := ih h2 (i := i) (by simpa using e); exact ⟨d', by simpa using q1, q2⟩
theorem _root_.L2.DpAll.get' {vs : List V} {ds : List PyData} (h : DpAll K H vs ds) {i : Nat} {d : PyData} (e : ds[i]? = some d) : ∃ v, vs[i]? = some v ∧ Dp K H v d := by
  have hl := h.len
  have hi : i < ds.length := (List.getElem?_eq_some_iff.mp e).1
  have hv : vs[i]? = some (vs[i]'(by omega)) := List.getElem?_eq_getElem (by omega)
  obtain ⟨d', q1, q2⟩ := h.get hv
  rw [e] at q1; cases q1
  exact ⟨_, hv, q2⟩
theorem _root_.L2.DpAll.two {vs : List V} {a b : PyData} (h : DpAll K H vs [a, b]) : ∃ x y, vs = [x, y] ∧ Dp K H x a ∧ Dp K H y b := by
  cases h with
  | cons h1 h2 => cases h2 with
    | cons h2 h3 => cases h3; exact ⟨_, _, rfl, h1, h2⟩
theorem _root_.L2.DpAll.app {vs ws : List V} {ds es : List PyData} (h : DpAll K H vs ds) (h' : DpAll K H ws es) : DpAll K H (vs ++ ws) (ds ++ es) := by
  induction ds generalizing vs with
  | nil => cases h; exact h'
  | cons d ds ih => cases h with | cons h1 h2 => exact .cons h1 (ih h2)
theorem _root_.L2.DpAll.one {v : V} {d : PyData} (h : Dp K H v d) : DpAll K H [v] [d] := .cons h .nil
theorem _root_.L2.DpAll.take {vs : List V} {ds : List PyData} (n : Nat) (h : DpAll K H vs ds) : DpAll K H (vs.take n) (ds.take n) := by
  induction ds generalizing vs n with
  | nil => cases h; simp; exact .nil
  | cons d ds ih =>
    cases h with
    | cons h1 h2 =>
      cases n with
      | zero => exact .nil
      | succ n => exact .cons h1 (ih n h2)
theorem dpAll_ints : ∀ ns : List Int, DpAll K H (ns.map V.int) (ns.map PyData.int)
  | [] => .nil
  | n :: ns => .cons (.int n) (dpAll_ints ns)
theorem dpAll_ints_inv : ∀ {ns : List Int} {vs : List V}, DpAll K H vs (ns.map PyData.int) → vs = ns.map V.int
  | [], _, h => by cases h; rfl
  | n :: ns, _, h => by
    cases h with
    | cons h1 h2 => cases h1; rw [dpAll_ints_inv h2]; rfl
end
/-- how many signs repr may take -/
def wide : PyData → Nat
  | .none => 4
  | .bool _ => 5
  | .int _ => 1921
  | .str x => (reprText x).length
  | .list xs => wideAll xs + 2
  | .tuple xs => wideAll xs + 3
  | .dict _ => 0
where wideAll : List PyData → Nat
  | [] => 0
  | x :: xs => wide x + 2 + wideAll xs
theorem listText_wide (ts : List Str) : (listText ts).length ≤ piled ts + 2 := by
  unfold listText
  rw [strLen_append]
  have e1 : ((("]" : String) : Str)).length = 1 := rfl
  have e2 : ((("[" : String) : Str)).length = 1 := rfl
  have : ∀ (ts : List Str) (k : Nat) (acc : Str), (textFrom k acc ts).length ≤ acc.length + piled ts := by
    intro ts
    induction ts with
    | nil => intro k acc; simp [textFrom, piled]
    | cons t ts ih =>
      intro k acc
      unfold textFrom
      refine Nat.le_trans (ih _ _) ?_
      rw [piled_cons]
      have e3 : (((", " : String) : Str)).length = 2 := rfl
      have e4 : ((("" : String) : Str)).length = 0 := rfl
      split <;> (simp only [strLen_append]; omega)
  have h := this ts 0 (("[" : String) : Str)
  omega
theorem tupText_wide (ts : List Str) : (tupleText ts).length ≤ piled ts + 3 := by
  have e3 : (((if ts.length == 1 then ",)" else ")" : String) : Str)).length ≤ 2 := by split <;> decide +kernel
  have e1 : ((("(" : String) : Str)).length = 1 := rfl
  unfold tupleText
  rw [strLen_append, strLen_append, e1]
  by_cases h : ts = []
  · subst h
    have : (Str.join ", " ([] : List Str)).length = 0 := rfl
    omega
  · have := join_length_add ts h
    omega
mutual
theorem shown_wide : ∀ d : PyData, d.showable = true → d.hasDict = false → d.shown.length ≤ wide d
  | .none, _, _ => by simp only [PyData.shown, wide]; decide
  | .bool b, _, _ => by cases b <;> (simp only [PyData.shown, wide]; decide)
  | .int i, h, _ => by
    simp only [PyData.shown, wide]
    exact PyProof.Rows.int_text_len_1921 (of_decide_eq_true (by simpa only [PyData.showable] using h))
  | .str x, _, _ => by simp only [PyData.shown, wide]; exact Nat.le_refl _
  | .list xs, h, h' => by
    simp only [PyData.shown, wide]
    have q := shown_wideAll xs (by simpa only [PyData.showable] using h) (by simpa only [PyData.hasDict] using h')
    exact Nat.le_trans (listText_wide _) (by omega)
  | .tuple xs, h, h' => by
    simp only [PyData.shown, wide]
    have q := shown_wideAll xs (by simpa only [PyData.showable] using h) (by simpa only [PyData.hasDict] using h')
    exact Nat.le_trans (tupText_wide _) (by omega)
  | .dict _, _, h' => by simp [PyData.hasDict] at h'
theorem shown_wideAll : ∀ ds : List PyData, PyData.showableAll ds = true → PyData.hasDictAll ds = false → piled (PyData.shownAll ds) ≤ wide.wideAll ds
  | [], _, _ => by simp [PyData.shownAll, piled, wide.wideAll]
  | d :: ds, h, h' => by
    simp only [PyData.showableAll, Bool.and_eq_true] at h
    simp only [PyData.hasDictAll, Bool.or_eq_false_iff] at h'
    have q1 := shown_wide d h.1 h'.1
    have q2 := shown_wideAll ds h.2 h'.2
    simp only [PyData.shownAll, piled_cons, wide.wideAll]
    omega
end
section
variable {X : Cx}
def rRep (K : PySem.W.Frag) : List V → Hp → VK → Prop := fun xs H Q =>
  ∃ v d, xs = [v] ∧ Dp K H v d ∧ d.showable = true ∧ d.hasDict = false ∧ d.depth ≤ 100 ∧ wide d ≤ 10000000 ∧ Q (.str d.shown) H
theorem big_sz : (10000000 : Nat) ≤ sizeLine := by rw [sizeLine_eq]; decide
theorem call_repD (qu : Quiet X.A) (hu : X.A.units + 200 < cLine) : CallR X (.builtin "repr") (rRep X.K) := by
  intro pins s σ H xs us Q I rv h
  obtain ⟨v, d, rfl, hd, h1, h2, h3, h4, q⟩ := h
  obtain ⟨u, rfl, ru⟩ := vals1 rv
  obtain ⟨as, rd⟩ := Dp.reads I d v u hd ru
  have sz : d.shown.length ≤ sizeLine := Nat.le_trans (shown_wide d h1 h2) (Nat.le_trans h4 big_sz)
  have fin : ∀ h' t tk, (∀ b o, s.heap.get? b = some o → h'.get? b = some o) → EP X pins σ Q (.str d.shown t) { s with heap := h', toks := tk } :=
    fun h' t tk k => ⟨.str _, H, I.kept k, ⟨_, rfl⟩, q⟩
  cases hd with
  | non =>
    obtain rfl : u = Value.none := ru
    exact PySem.P.repr_of_none (fin s.heap _ _ fun _ _ e => e)
  | bl b =>
    obtain rfl : u = Value.bool b := ru
    refine PySem.P.repr_of_bool ?_
    have z := fin s.heap s.toks (s.toks + 1) fun _ _ e => e
    simp only [PyData.shown] at z
    cases b <;> exact z
  | int i =>
    obtain ⟨t, rfl⟩ := ru
    refine PySem.P.repr_of_int (of_decide_eq_true (by simpa only [PyData.showable] using h1)) ?_
    exact fin s.heap _ _ fun _ _ e => e
  | str x =>
    obtain ⟨t, rfl⟩ := ru
    exact PySem.P.repr_of_str (fin s.heap _ _ fun _ _ e => e) sz
  | lst hs ha =>
    obtain rfl : u = Value.ref _ := ru
    exact repr_of_reads' rd h1 (PyData.noDict_hsm h2) qu (by omega) (fun _ _ e => e) (fun h' t tk k => fin h' t tk k) sz
  | tup hs ha =>
    obtain rfl : u = Value.ref _ := ru
    exact repr_of_reads' rd h1 (PyData.noDict_hsm h2) qu (by omega) (fun _ _ e => e) (fun h' t tk k => fin h' t tk k) sz
/-- // by any divisor but 0, of fewer than 9000 bits -/
def CDivZ (_ j : Int) : Prop := j ≠ 0 ∧ j.natAbs.log2 < 9000
theorem op_fdivZ : OpR X (binaryOp .FloorDiv) (rI CDivZ fun i j => .int (i.fdiv j)) := opI fun i j _ _ _ _ _ hc q =>
  floordiv_int hc.1 q (.inl (PyProof.noPylong_of_log2 hc.2))
end
end Gx

set_option Elab.async false
set_option linter.all false
set_option maxRecDepth 100000
set_option maxHeartbeats 2000000
namespace Gx
open PySem PySem.Spec PyProof.Rows L2 Evl
/-! A list of the law's own that calls change, told by what stays true of it: the abstract heap stays as it is. -/
def plainO : HO → Bool
  | .tup _ => false
  | .frz _ _ => false
  | .tbl _ => false
  | .own _ => false
  | _ => true
section
variable {P : Program} {w : World} {H H1 : Hp} {h h' : Heap} {b : Addr} {u u1 u2 : HO} {fs ex : List Addr}
theorem hok_swap (ok : HOk P w H h) (hb : H b = some u) (hp : plainO u = true) (ob : ObjOk P w (upd H b u1) h b u1) :
    HOk P w (upd H b u1) h := by
  intro a o e
  by_cases hab : a = b
  · subst hab
    rw [upd_same] at e
    cases e
    exact ob
  · rw [upd_ne hab] at e
    refine (ok a o e).stay (fun _ _ _ q => q) (fun c q => ?_) (fun c xs q => ?_)
    · rw [upd_ne (fun z => by rw [z, hb] at q; cases q; cases hp)]; exact q
    · rw [upd_ne (fun z => by rw [z, hb] at q; cases q; cases hp)]; exact q
theorem un_seal (hb : H b = some u) (un : Un fs ex (upd H b u1) (upd H b u2) h h') : Un fs ex H H h h' := by
  have nb : ∀ c, H c = none → c ≠ b := fun c n z => by rw [z, hb] at n; cases n
  refine ⟨fun c o q n hc hx => ?_, fun c o q n hc hx => ?_, fun _ _ _ n _ => n, fun c o q hx => un.there c o q hx,
    fun _ _ q => q, fun _ _ _ q => q, fun c ps q => ⟨#[], by rw [q]; simp⟩⟩
  · exact un.keep c o q (by rw [upd_ne (nb c n)]; exact n) hc hx
  · exact un.slot c o q (by rw [upd_ne (nb c n)]; exact n) hc hx
theorem un_new (hb : H1 b = some u) (hp : plainO u = true) (un : Un fs ex H H1 h h') : Un fs ex H (upd H1 b u1) h h' := by
  refine ⟨un.keep, un.slot, fun c o q n hx => ?_, un.there, fun c xs q => ?_, fun c o v q => ?_, fun c ps q => ?_⟩
  · have z := un.free c o q n hx
    rw [upd_ne (fun e => by rw [e, hb] at z; cases z)]; exact z
  · have z := un.tups c xs q
    rw [upd_ne (fun e => by rw [e, hb] at z; cases z; cases hp)]; exact z
  · have z := un.frzs c o v q
    rw [upd_ne (fun e => by rw [e, hb] at z; cases z; cases hp)]; exact z
  · obtain ⟨more, z⟩ := un.tbls c ps q
    exact ⟨more, by rw [upd_ne (fun e => by rw [e, hb] at z; cases z; cases hp)]; exact z⟩
end
theorem upd_self {H : Hp} {b : Addr} {u : HO} (h : H b = some u) : upd H b u = H := by
  funext c
  by_cases e : c = b
  · subst e; rw [upd_same, h]
  · rw [upd_ne e]
/-! ### the bag -/
def BagAt (b l : Addr) (h : Heap) : Prop := ∃ (p q r : Int) (t1 t2 t3 : Tok) (n : Nat),
  h.get? b = some { cls := .type "list", data := .seq #[.int p t1, .int q t2, .int r t3, .ref l] n } ∧
    0 ≤ p ∧ 0 ≤ q ∧ q < 2147483647 ∧ 0 ≤ r
def BagO (b l : Addr) : HO := .ext (BagAt b l)
def bagL (p q r : Int) (l : Addr) : List V := [.int p, .int q, .int r, .ref l]
structure Bag (H : Hp) (b : Addr) : Prop where
  ex : ∃ (l : Addr) (cs : List Int), H b = some (BagO b l) ∧ H l = some (.lst (cs.map V.int)) ∧ ∀ c ∈ cs, 0 ≤ c
theorem Bag.to {H H' : Hp} {b : Addr} (g : Bag H b) (e : Ex H H') : Bag H' b := by
  obtain ⟨l, cs, h1, h2, h3⟩ := g.ex
  exact ⟨l, cs, e _ _ h1, e _ _ h2, h3⟩
theorem bag_objOk {P : Program} {w : World} {H : Hp} {h : Heap} {b l : Addr} (x : BagAt b l h) : ObjOk P w H h b (BagO b l) := by
  refine ⟨x, ?_, fun h1 h2 y k => ?_⟩
  · obtain ⟨p, q, r, t1, t2, t3, n, e, _⟩ := x
    exact ⟨_, e⟩
  · obtain ⟨p, q, r, t1, t2, t3, n, e, z⟩ := y
    exact ⟨p, q, r, t1, t2, t3, n, k _ e, z⟩
theorem bag_open {P : Program} {w : World} {H : Hp} {h : Heap} {b l : Addr} (ok : HOk P w H h) (hb : H b = some (BagO b l)) :
    ∃ p q r : Int, (0 ≤ p ∧ 0 ≤ q ∧ q < 2147483647 ∧ 0 ≤ r) ∧ HOk P w (upd H b (.lst (bagL p q r l))) h := by
  obtain ⟨⟨p, q, r, t1, t2, t3, n, e, z⟩, _⟩ := ok b _ hb
  refine ⟨p, q, r, z, hok_swap ok hb rfl ⟨by show 4 ≤ sizeLine; decide, [.int p t1, .int q t2, .int r t3, .ref l], n, ?_, e⟩⟩
  exact .cons ⟨_, rfl⟩ (.cons ⟨_, rfl⟩ (.cons ⟨_, rfl⟩ (.cons rfl .nil)))
theorem bag_close {P : Program} {w : World} {H : Hp} {h : Heap} {b l : Addr} {p q r : Int} (ok : HOk P w H h)
    (hb : H b = some (.lst (bagL p q r l))) (z : 0 ≤ p ∧ 0 ≤ q ∧ q < 2147483647 ∧ 0 ≤ r) : BagAt b l h := by
  obtain ⟨_, its, n, rv, e⟩ := ok b _ hb
  unfold bagL at rv
  cases rv with
  | cons r1 rv => cases rv with
    | cons r2 rv => cases rv with
      | cons r3 rv => cases rv with
        | cons r4 rv =>
          cases rv
          obtain ⟨t1, rfl⟩ := r1
          obtain ⟨t2, rfl⟩ := r2
          obtain ⟨t3, rfl⟩ := r3
          obtain rfl := r4
          exact ⟨p, q, r, t1, t2, t3, n, e, z⟩
/-- what _law_take promises: some number below many, and nothing that is told has changed -/
def spTake : Sp := fun vs H Q _ => ∃ (b : Addr) (many : Int), vs = [.ref b, .int many] ∧ Bag H b ∧ 0 < many ∧ many < 1073741824 ∧
  ∀ x : Int, 0 ≤ x → x < many → Q (.int x) H
/-- .. and what its body does to the list -/
def spTakeI : Sp := fun vs H Q _ => ∃ (b l : Addr) (many p q r : Int) (cs : List Int), vs = [.ref b, .int many] ∧
  H b = some (.lst (bagL p q r l)) ∧ H l = some (.lst (cs.map V.int)) ∧ b ≠ l ∧ (∀ c ∈ cs, 0 ≤ c) ∧
  (0 ≤ p ∧ 0 ≤ q ∧ q < 2147483647 ∧ 0 ≤ r) ∧ 0 < many ∧ many < 1073741824 ∧
  ∀ x p' q' r' : Int, 0 ≤ x → x < many → (0 ≤ p' ∧ 0 ≤ q' ∧ q' < 2147483647 ∧ 0 ≤ r') →
    Q (.int x) (upd H b (.lst (bagL p' q' r' l)))
def spBag (K : PySem.W.Frag) : Sp := fun vs H Q _ => ∃ (a : Addr) (ns : List Int), vs = [.ref a] ∧ SqL K H a (ns.map V.int) ∧ ns.length ≤ 1000 ∧
  ∀ b H', Ex H H' → Bag H' b → Q (.ref b) H'
def spBagI (K : PySem.W.Frag) : Sp := fun vs H Q _ => ∃ (a : Addr) (ns : List Int), vs = [.ref a] ∧ SqL K H a (ns.map V.int) ∧ ns.length ≤ 1000 ∧
  ∀ (b l : Addr) (cs : List Int) (H' : Hp), Ex H H' → H b = none → H' b = some (.lst (bagL 0 1234567891 0 l)) →
    H' l = some (.lst (cs.map V.int)) → (∀ c ∈ cs, 0 ≤ c) → Q (.ref b) H'
section
variable {P : Program} {w : World} {K : PySem.W.Frag} {mg : Str → Option Value} {base : Heap} {k : Nat} {f : Addr} {fd : FuncData}
theorem take_sealed (F : FnOk P w K mg base CX0 k f fd ["_law_bag_here", "_law_many"] spTakeI) :
    FnOk P w K mg base CX0 k f fd ["_law_bag_here", "_law_many"] spTake := by
  refine ⟨fun vs H Q E h => ?_, fun A outer s H args us vs Q E rm e0 bd rv h => ?_⟩
  · obtain ⟨b, many, rfl, _⟩ := h; rfl
  · obtain ⟨b, many, rfl, ⟨l, cs, hb, hl, hc⟩, m0, m1, kq⟩ := h
    obtain ⟨p, q, r, z, ok1⟩ := bag_open e0.hok hb
    have nbl : b ≠ l := fun e => by rw [e, hl] at hb; cases hb
    have e1 : Env0 P w K mg base A outer s (upd H b (.lst (bagL p q r l))) := by
      refine ⟨e0.frames, e0.mod, fun c o q => ?_, e0.bsz, e0.funs, fun c hc => ?_, ok1, e0.bare⟩
      · obtain ⟨x1, x2⟩ := e0.bs c o q
        exact ⟨x1, by rw [upd_ne (fun e => by rw [e, hb] at x2; cases x2)]; exact x2⟩
      · have x2 := e0.frf c hc
        rw [upd_ne (fun e => by rw [e, hb] at x2; cases x2)]; exact x2
    refine codeAny_mono (F.run A outer s _ args us [.ref b, .int many]
      (fun v H' => ∃ (x p' q' r' : Int), v = .int x ∧ 0 ≤ x ∧ x < many ∧ (0 ≤ p' ∧ 0 ≤ q' ∧ q' < 2147483647 ∧ 0 ≤ r') ∧ H' = upd (upd H b (.lst (bagL p q r l))) b (.lst (bagL p' q' r' l)))
      E rm e1 bd rv ⟨b, l, many, p, q, r, cs, rfl, upd_same, by rw [upd_ne nbl.symm]; exact hl, nbl, hc, z, m0, m1,
        fun x p' q' r' h0 h1 zz => ⟨x, p', q', r', rfl, h0, h1, zz, rfl⟩⟩) ?_
    intro r s' hq
    match r, hq with
    | .ok (.ret u), ⟨v, H', os, bare, un, ok', rv', x, p', q', r', ev, h0, h1, zz, eH⟩ =>
      subst eH
      rw [upd_upd] at un ok'
      have at_ := bag_close ok' upd_same zz
      have ok2 := hok_swap (u1 := BagO b l) ok' upd_same rfl (bag_objOk at_)
      rw [upd_upd, upd_self hb] at ok2
      exact ⟨v, H, os, bare, un_seal hb un, ok2, rv', by rw [ev]; exact kq x h0 h1⟩
theorem bag_sealed (F : FnOk P w K mg base CX0 k f fd ["_law_script"] (spBagI K)) : FnOk P w K mg base CX0 k f fd ["_law_script"] (spBag K) := by
  refine ⟨fun vs H Q E h => ?_, fun A outer s H args us vs Q E rm e0 bd rv h => ?_⟩
  · obtain ⟨a, ns, rfl, _⟩ := h; rfl
  · obtain ⟨a, ns, rfl, hs, hl, kq⟩ := h
    refine codeAny_mono (F.run A outer s H args us [.ref a]
      (fun v H' => ∃ (b l : Addr) (cs : List Int), v = .ref b ∧ Ex H H' ∧ H b = none ∧ H' b = some (.lst (bagL 0 1234567891 0 l)) ∧
        H' l = some (.lst (cs.map V.int)) ∧ (∀ c ∈ cs, 0 ≤ c))
      E rm e0 bd rv ⟨a, ns, rfl, hs, hl, fun b l cs H' x1 x2 x3 x4 x5 => ⟨b, l, cs, rfl, x1, x2, x3, x4, x5⟩⟩) ?_
    intro r s' hq
    match r, hq with
    | .ok (.ret u), ⟨v, H', os, bare, un, ok', rv', b, l, cs, ev, ex, nb, hb, hl', hc⟩ =>
      have at_ := bag_close ok' hb ⟨by decide, by decide, by decide, by decide⟩
      have ok2 := hok_swap (u1 := BagO b l) ok' hb rfl (bag_objOk at_)
      have nbl : l ≠ b := fun e => by rw [e, hb] at hl'; injection hl' with e1; injection e1 with e2; cases cs with
        | nil => cases e2
        | cons c cs => cases cs with
          | nil => cases e2
          | cons c2 cs => cases cs with
            | nil => cases e2
            | cons c3 cs => cases cs with
              | nil => cases e2
              | cons c4 cs => cases e2
      refine ⟨v, _, os, bare, un_new hb rfl un, ok2, rv', ?_⟩
      subst ev
      refine kq b _ (ex.mut nb) ⟨l, cs, upd_same, by rw [upd_ne nbl]; exact hl', hc⟩
end
end Gx

set_option Elab.async false
set_option linter.all false
set_option maxRecDepth 100000
set_option maxHeartbeats 2000000
namespace Gx
open PySem PySem.Spec PyProof.Rows L2 Evl
/-- the built-in names that the text uses are still the built-in ones -/
structure Bi (mg : Str → Option Value) : Prop where
  len : mg "len" = none
  abs : mg "abs" = none
  max : mg "max" = none
  min : mg "min" = none
  repr : mg "repr" = none
  int : mg "int" = none
  tuple : mg "tuple" = none
  list : mg "list" = none
  dict : mg "dict" = none
  isinstance : mg "isinstance" = none
  sorted : mg "sorted" = none
  sum : mg "sum" = none
  all : mg "all" = none
  any : mg "any" = none
  range : mg "range" = none
  enumerate : mg "enumerate" = none
  zip : mg "zip" = none
  bool : mg "bool" = none
  str : mg "str" = none
  set : mg "set" = none
theorem bt_len : bootBuiltins "len" = some (.builtin "len") := by decide +kernel
theorem bt_abs : bootBuiltins "abs" = some (.builtin "abs") := by decide +kernel
theorem bt_max : bootBuiltins "max" = some (.builtin "max") := by decide +kernel
theorem bt_min : bootBuiltins "min" = some (.builtin "min") := by decide +kernel
theorem bt_repr : bootBuiltins "repr" = some (.builtin "repr") := by decide +kernel
theorem bt_int : bootBuiltins "int" = some (.type "int") := by decide +kernel
theorem bt_tuple : bootBuiltins "tuple" = some (.type "tuple") := by decide +kernel
theorem bt_list : bootBuiltins "list" = some (.type "list") := by decide +kernel
theorem bt_dict : bootBuiltins "dict" = some (.type "dict") := by decide +kernel
theorem bt_isinstance : bootBuiltins "isinstance" = some (.builtin "isinstance") := by decide +kernel
theorem bt_sorted : bootBuiltins "sorted" = some (.builtin "sorted") := by decide +kernel
theorem bt_sum : bootBuiltins "sum" = some (.builtin "sum") := by decide +kernel
theorem bt_all : bootBuiltins "all" = some (.builtin "all") := by decide +kernel
theorem bt_bool : bootBuiltins "bool" = some (.type "bool") := by decide +kernel
theorem bt_str : bootBuiltins "str" = some (.type "str") := by decide +kernel
theorem bt_set : bootBuiltins "set" = some (.type "set") := by decide +kernel
theorem bt_any : bootBuiltins "any" = some (.builtin "any") := by decide +kernel
/-- a def of the top as the head leaves it -/
structure Def (K : PySem.W.Frag) (mg : Str → Option Value) (x : Str) (st : Stmt) (f : Addr) (fd : FuncData) (ps : List Str) : Prop where
  fn : Fun K x x st f fd
  mg : mg x = some (.ref f)
  bd : Binds K fd ps []
/-- .. by what the head tells of it -/
def IsDef (K : PySem.W.Frag) (x qual : Str) (st : Stmt) (f : Addr) : Prop :=
  ∃ (oc : Value) (od : Option Addr) (kV doc pm : Value) (an : Option Addr) (cdv ct : Value) (osl : Array (Option Value)),
    K.lookup f = some ⟨oc, od, .func (PySem.W.fnOf x qual (defArgs st) (defBody st) (defScope st) .none kV doc pm an cdv ct), osl⟩ ∧
      PySem.W.codeIn K cdv qual = true ∧ PySem.W.keepIn K (.ref f) = true
theorem IsDef.fn {K : PySem.W.Frag} {x qual : Str} {st : Stmt} {f : Addr} (d : IsDef K x qual st f) : ∃ fd, Fun K x qual st f fd := by
  obtain ⟨oc, od, kV, doc, pm, an, cdv, ct, osl, l, c, k⟩ := d
  exact ⟨_, fun_mk l c k⟩
theorem def_mk {K : PySem.W.Frag} {h : Heap} {mg : Str → Option Value} {x : Str} {st : Stmt} {f : Addr} {ps : List Str}
    (X : K.In h) (G : h.Ns mainGlobals mg) (a : PySem.W.nsIn K mainGlobals x = some (some (.ref f))) (d : IsDef K x x st f)
    (hb : ∀ (kV doc pm : Value) (an : Option Addr) (cdv ct : Value) (us : List Value), us.length = ps.length →
      bindArgs (PySem.W.fnOf x x (defArgs st) (defBody st) (defScope st) .none kV doc pm an cdv ct) ⟨us, []⟩ = pure (ps.zip us)) :
    ∃ fd, Def K mg x st f fd ps := by
  obtain ⟨fd, F⟩ := d.fn
  exact ⟨fd, F, PySem.W.mg_of X G a, F.binds hb⟩
/-- a quiet def from which no exception leaves -/
theorem fnq_ok {P : Program} {w : World} {K : PySem.W.Frag} {mg : Str → Option Value} {base : Heap}
    {x qual : Str} {st : Stmt} {f : Addr} {fd : FuncData} {N ps : List Str} {k : Nat} {sp : Sp}
    (F : Fun K x qual st f fd) (S : FnScope N ps (defScope st))
    (len : ∀ vs H Q E, sp vs H Q E → vs.length = ps.length)
    (walk : ∀ (cdv : Value) (A : Around) (outer : List Env) (s : Shared) (H : Hp) (vs : List V) (Q : VK) (E : XK),
      Room k (A.deeper (envOfC qual (defScope st) s.heap.objs.size f cdv)) →
      Quiet (A.deeper (envOfC qual (defScope st) s.heap.objs.size f cdv)) → sp vs H Q E →
      ∃ t, PSs (cxOf CX0 P w K mg base N qual (defScope st) f cdv A outer s H E).nox (defBody st) t ∧
        t { nx := fun _ H' => Q .non H', rt := Q } (start N vs) H) :
    FnQ P w K mg base CX0 (k + 1) f fd ps sp :=
  fnq_of F S len fun cdv A outer s H vs Q E rm qu h =>
    let ⟨t, a, b⟩ := walk cdv A outer s H vs Q E rm qu h
    ⟨t, a.nox, b⟩
section
variable {X : Cx}
def rGetL (K : PySem.W.Frag) : V → V → Hp → VK → Prop := fun o i H Q => ∃ p xs k v, o = .ref p ∧ i = .int k ∧ SqL K H p xs ∧
  0 ≤ k ∧ k < 1000000 ∧ xs[k.toNat]? = some v ∧ Q v H
theorem get_list : PGet X (rGetL X.K) := by
  intro pins s σ H o i ov iv Q I ro ri h
  obtain ⟨p, xs, k, v, rfl, rfl, hs, h0, h1, hx, q⟩ := h
  obtain rfl : ov = Value.ref p := ro
  obtain ⟨t, rfl⟩ := ri
  obtain ⟨its, r, pl, hz⟩ := I.list hs
  obtain ⟨u, hu, ru⟩ := r.get hx
  exact wpAny_getItem_list pl.isList h0 (by omega) (by simpa using hu) ⟨v, H, I, ru, q⟩
end
theorem ex_upd {H H' : Hp} {p : Addr} {o : HO} (e : Ex H H') (n : H' p = none) : Ex H (upd H' p o) := e.trans (Ex.new n)
/-- a test read out -/
theorem if_d {c A B : Prop} [Decidable c] (h1 : c → A) (h2 : ¬ c → B) : if decide c = true then A else B := by
  by_cases h : c
  · rw [if_pos (decide_eq_true h)]; exact h1 h
  · rw [if_neg (by rw [decide_eq_false h]; exact Bool.false_ne_true)]; exact h2 h
theorem if_nd {c A B : Prop} [Decidable c] (h1 : ¬ c → A) (h2 : c → B) : if (!decide c) = true then A else B := by
  by_cases h : c
  · rw [decide_eq_true h]; exact iteF (h2 h)
  · rw [decide_eq_false h]; exact iteT (h1 h)
theorem V_int_eq {a b : Int} : (V.int a = V.int b) = (a = b) := propext ⟨fun h => V.int.inj h, fun h => by rw [h]⟩
theorem atI_of {α : Type} {xs : List α} {i : Int} {v : α} (h0 : 0 ≤ i) (h : xs[i.toNat]? = some v) : atI xs i = some v := by
  have hl := (List.getElem?_eq_some_iff.mp h).1
  unfold atI ixN
  rw [if_pos h0, if_pos (by omega)]
  exact h
theorem get_of {α : Type} {xs : List α} {i : Int} (h0 : 0 ≤ i) (h1 : i < xs.length) : ∃ v, xs[i.toNat]? = some v ∧ v ∈ xs := by
  have hl : i.toNat < xs.length := by omega
  exact ⟨xs[i.toNat], List.getElem?_eq_getElem hl, List.getElem_mem hl⟩
end Gx

set_option Elab.async false
set_option linter.all false
set_option maxRecDepth 100000
set_option maxHeartbeats 2000000
namespace Gx
open PySem PySem.Spec PyProof.Rows L2 Evl
/-- a tuple of which the very object is known: it has no dict of its own -/
def ExT (H : Hp) (a : Addr) (xs : List V) : Prop := ∃ o : Obj, H a = some (.frz o (.tup xs)) ∧ o.dict = none
theorem ExT.sq {K : PySem.W.Frag} {H : Hp} {a : Addr} {xs : List V} (x : ExT H a xs) : SqT K H a xs := by
  obtain ⟨o, h, _⟩ := x
  exact .inl (.inr ⟨o, h⟩)
theorem ExT.to {H H' : Hp} {a : Addr} {xs : List V} (x : ExT H a xs) (e : Ex H H') : ExT H' a xs := by
  obtain ⟨o, h, d⟩ := x
  exact ⟨o, e _ _ h, d⟩
section
variable {X : Cx}
/-- tuple(xs) of a list, the new object known -/
def rTupX (K : PySem.W.Frag) : List V → Hp → VK → Prop := fun xs H Q => ∃ (p : Addr) (ys : List V), xs = [.ref p] ∧ SqL K H p ys ∧
  ∀ l H', H l = none → Ex H H' → ExT H' l ys → Q (.ref l) H'
theorem call_tupX : CallR X (.type "tuple") (rTupX X.K) := by
  intro pins s σ H xs us Q I rv h
  obtain ⟨p, ys, rfl, hq, q⟩ := h
  obtain ⟨u, rfl, ru⟩ := vals1 rv
  obtain rfl : u = Value.ref p := ru
  obtain ⟨its, r', pl, hz⟩ := I.list hq
  have hlen := r'.length
  refine call_tuple_list pl.isList (fun h' kp => ?_) (by simp only [List.size_toArray] <;> omega)
  have I1 : Inv X pins σ H { s with heap := h' } := I.kept (t' := s.toks) kp
  have hn : H h'.objs.size = none := I1.hok.fresh (Nat.le_refl _)
  have I2 := I1.laid (t' := s.toks) (a := h'.objs.size) (o := .frz { cls := .type "tuple", data := .seq its.toArray } (.tup ys))
    (h' := h'.push { cls := .type "tuple", data := .seq its.toArray }) (fun b o e => Heap.get?_push_of_some _ e) (Nat.le_refl _)
    ⟨Heap.get?_push_size _ rfl, hz, its, r', IsTup.new _ _⟩
  exact ⟨.ref h'.objs.size, _, I2, rfl, q _ _ hn (Ex.new hn) ⟨_, upd_same, rfl⟩⟩
/-- dict(t) of a tuple of pairs whose keys are ints or texts -/
def rDictT (K : PySem.W.Frag) : List V → Hp → VK → Prop := fun xs H Q => ∃ (a : Addr) (ps : List Addr) (kvs : List (Key × V)), xs = [.ref a] ∧
  ExT H a (ps.map V.ref) ∧ Paired (fun p kv => SqT K H p [kV kv.1, kv.2]) ps kvs ∧ ∀ p, H p = none → Q (.ref p) (upd H p (.dK (mergeK [] kvs)))
theorem call_dictT (hcalm : X.calm = true) : CallR X (.type "dict") (rDictT X.K) := by
  intro pins s σ H xs us Q I rv h
  obtain ⟨a, ps, kvs, rfl, ⟨o, ho, hd⟩, hp, q⟩ := h
  obtain ⟨u, rfl, ru⟩ := vals1 rv
  obtain rfl : u = Value.ref a := ru
  obtain ⟨he, hz, its, r', ⟨o', e', hc, n, hdat⟩⟩ := I.hok a _ ho
  rw [he] at e'
  cases e'
  have ei := refs_at r'
  subst ei
  rw [List.length_map] at hz
  obtain ⟨prs, rel, hl, hpr⟩ := pairs_of I hp
  -- the keys as they stand in the heap
  have key : ∀ j : Nat, j < prs.length → ∃ kv : Value × Value, ∃ b, ps[j]? = some b ∧ IsTup s.heap b #[kv.1, kv.2] ∧
      ∃ q, prs[j]? = some q ∧ q.2 = kv.2 ∧ keyIs q.1 kv.1 = true := by
    intro j hj
    obtain ⟨b, u, e1, e2, e3⟩ := hpr j _ (List.getElem?_eq_getElem hj)
    exact ⟨(u, prs[j].2), b, e1, e2, _, List.getElem?_eq_getElem hj, rfl, e3⟩
  let ws : List (Value × Value) := List.ofFn fun j : Fin prs.length => (key j.1 j.2).choose
  have hws : ws.length = prs.length := List.length_ofFn
  have wsAt : ∀ j (hj : j < prs.length), ws[j]? = some (key j hj).choose := by
    intro j hj
    rw [List.getElem?_eq_getElem (by rw [hws]; exact hj)]
    exact congrArg some (List.getElem_ofFn (by rw [hws]; exact hj))
  refine PySem.call_dict_pairs (kvs := prs) (knd := mixKind X.prog X.w)
    (PySem.PairArg.tuple a (ps.map Value.ref).toArray (fun j => ps.getD j 0) ws) (I.ok.hd hcalm) ⟨⟨o, n, he, hc, hd, hdat⟩, ?_, ?_⟩ ⟨hws.symm, ?_⟩ ?_ ?_
  · rw [hws, hl]; simp
  · intro j k v hj
    have hjl : j < prs.length := by rw [← hws]; exact (List.getElem?_eq_some_iff.mp hj).1
    rw [wsAt j hjl] at hj
    obtain ⟨b, e1, e2, _⟩ := (key j hjl).choose_spec
    have e0 := Option.some.inj hj
    rw [e0] at e2
    refine ⟨?_, .inl ?_⟩
    · simp [e1]
    · have e3 : ps.getD j 0 = b := by simp [e1]
      show s.heap.IsTuple (ps.getD j 0) #[k, v]
      rw [e3]
      exact e2
  · intro i k v hr
    have hr' : ws[i]? = some (k, v) := hr
    have hil : i < prs.length := by rw [← hws]; exact (List.getElem?_eq_some_iff.mp hr').1
    rw [wsAt i hil] at hr'
    have e0 := Option.some.inj hr'
    obtain ⟨b, e1, e2, z, e3, e4, e5⟩ := (key i hil).choose_spec
    rw [e0] at e4 e5
    obtain ⟨z1, z2⟩ := z
    simp only at e4 e5
    subst e4
    exact ⟨z1, e3, e5⟩
  · rw [hws, hl]; exact hz
  · intro h' tk hd' k'
    have hm : (s.heap.objs.size == sysModules) = false := beq_eq_false_iff_ne.mpr (Nat.ne_of_gt I.big)
    have hlen : (mergeK [] kvs).length ≤ sizeLine := by
      refine Nat.le_trans (length_mergeK kvs []) ?_
      rw [List.length_nil, Nat.zero_add, rel.length, hl]
      exact hz
    have kk : ∀ b o, s.heap.get? b = some o → h'.get? b = some o := fun b o e => k' b o (by simp) e
    have I2 := I.laid (t' := tk) (a := s.heap.objs.size) (o := .dK (mergeK [] kvs)) kk (Nat.le_refl _) ⟨hlen, hm, merged [] prs, KV.merge rel .nil, hd'⟩
    exact ⟨.ref s.heap.objs.size, _, I2, rfl, q _ (I.hok.fresh (Nat.le_refl _))⟩
end
/-- a dict of pairs with different keys, looked up -/
theorem valV_merge : ∀ (kvs acc : List (Key × V)) (k : Key), (∀ kv ∈ kvs, valV acc kv.1 = none) → (kvs.map (·.1)).Nodup →
    valV (mergeK acc kvs) k = match valV kvs k with | some v => some v | none => valV acc k
  | [], acc, k, _, _ => rfl
  | kv :: r, acc, k, h, nd => by
    rw [List.map_cons, List.nodup_cons] at nd
    have e : mergeK acc (kv :: r) = mergeK (putK acc kv.1 kv.2) r := rfl
    rw [e, valV_merge r (putK acc kv.1 kv.2) k (fun z hz => ?_) nd.2]
    · rw [valV_put]
      by_cases hk : kv.1 = k
      · rw [valV_pos hk, if_pos hk.symm]
        have : valV r k = none := by
          cases q : valV r k with
          | none => rfl
          | some v => exact absurd (by rw [hk]; exact valV_in q) nd.1
        rw [this]
      · rw [valV_neg hk, if_neg (fun e => hk e.symm)]
    · rw [valV_put, if_neg (fun e => nd.1 (by rw [← e]; exact List.mem_map_of_mem hz))]
      exact h z (List.mem_cons_of_mem _ hz)
end Gx

set_option Elab.async false
set_option linter.all false
set_option maxRecDepth 100000
set_option maxHeartbeats 2000000
namespace PySem
open AutoSeq1 (wpAny_loadPart')
/-- enumerate(t) of a tuple -/
theorem gx_enum_new (l : Addr) (items : Array Value) (n : Nat) (dct : Option Addr) (sl : Array (Option Value)) :
    Meets (Builtin.«enumerate.__new__» ⟨[.type "enumerate", .ref l], []⟩) (fun _ R s =>
      s.heap.get? l = some { cls := .type "tuple", dict := dct, data := .seq items n, slots := sl } ∧
      R (.ok (.ret (.ref (s.heap.push { cls := .type "tuple_iterator", data := .fields #[.ref l, .int 0 0] }).objs.size)))
        { s with heap := (s.heap.push { cls := .type "tuple_iterator", data := .fields #[.ref l, .int 0 0] }).push { cls := .type "enumerate", data := .fields #[.none, .bool false, .ref s.heap.objs.size, rawInt 0, .none, .none] } }) := by
  refine .of_wp fun prog w A R s h => ?_
  obtain ⟨hp, g, d, tk, os⟩ := s
  obtain ⟨hl, h⟩ := h
  have sb := sub_enumerate
  have tT : Heap.IsTuple (Shared.heap ⟨hp, g, d, tk, os⟩) l items := ⟨_, hl, rfl, n, rfl⟩
  wp_walk using wpAny_loadPart' hl
  refine wpAny_stack_any fun st => wpAny_pure ?_
  split
  · rename_i c _ _ _ _ _
    cases (c == Value.type "enumerate") <;>
      (wp_walk using wpAny_loadPart' hl, wpAny_pyIter_tuple tT; exact ⟨_, rfl, h⟩)
  · wp_walk using wpAny_loadPart' hl, wpAny_pyIter_tuple tT
    exact ⟨_, rfl, h⟩
section
variable {prog : Program} {w : World} {A : Around} {E : Value → Shared → Prop} {s : Shared}
theorem gx_call_enum {l : Addr} {items : Array Value} {Q : Value → Shared → Prop} (hL : s.heap.IsTuple l items)
    (h : ∀ h', IsEnum h' (s.heap.objs.size + 1) s.heap.objs.size 0 .none → h'.IsTupleIter s.heap.objs.size l 0 →
      (∀ b o, s.heap.get? b = some o → h'.get? b = some o) → Q (.ref (s.heap.objs.size + 1)) { s with heap := h' }) :
    wpAny (model prog w) A (call (.type "enumerate") [.ref l]) Q E s := by
  obtain ⟨⟨c, dct, dt, sl⟩, hl, hc, n, hd⟩ := hL
  obtain rfl : c = .type "tuple" := hc
  obtain rfl : dt = .seq items n := hd
  refine callType_new F.called_enumerate (by decide) (F.typeCall_enumerate_1 _) (F.newCall_enumerate_1 _)
    (fun obj => F.args_object_init_2 obj _) F.entry_enumerate_new (gx_enum_new l items n dct sl) ⟨hl, ?_⟩
  have sz : (s.heap.push { cls := .type "tuple_iterator", data := .fields #[.ref l, .int 0 0] }).objs.size = s.heap.objs.size + 1 := Heap.size_push ..
  have at1 := Heap.get?_push_size (s.heap.push { cls := .type "tuple_iterator", data := .fields #[.ref l, .int 0 0] })
    (o := { cls := .type "enumerate", data := .fields #[.none, .bool false, .ref s.heap.objs.size, rawInt 0, .none, .none] }) rfl
  show _ ∧ _
  rw [sz] at at1 ⊢
  refine ⟨⟨_, at1, rfl⟩, h _ at1 ⟨_, Heap.get?_push_of_some _ (Heap.get?_push_size _ rfl), rfl, rfl⟩ ?_⟩
  exact fun b o x => Heap.get?_push_of_some _ (Heap.get?_push_of_some _ x)
end
end PySem
namespace Gx
open PySem PySem.Spec PyProof.Rows L2 Evl
/-- the tuple at a, each item in a new pair with its number -/
def Iet (K : PySem.W.Frag) (a : Addr) : It where
  go := fun i H => ∃ (xs : List V) (x : V), SqT K H a xs ∧ xs[i]? = some x
  yld := fun i H v H' => ∃ T x, v = .ref T ∧ H T = none ∧ H' = upd H T (.tup [.int (i : Nat), x]) ∧ ∀ xs, SqT K H a xs → xs[i]? = some x
  stop := fun i H => ∃ xs : List V, SqT K H a xs ∧ xs.length ≤ i
theorem turn_enumT {P : Program} {w : World} {K : PySem.W.Frag} {elts : List Expr} {kk : Nat} {tpos : Pos} (a e it : Addr) (nt : a ≠ it) :
    Turn P w K (.Tuple elts kk tpos) (Iet K a) [e, it] e
      (fun i h => (∃ old, IsEnum h e it ((i : Nat) : Int) old) ∧ h.IsTupleIter it a i ∧ e ≠ it ∧ e ≠ a) := by
  refine ⟨by simp, fun i h st b hb => ?_, fun i h h' st k => ?_, ?_, ?_, fun A i s Q E st h => ?_⟩
  · obtain ⟨⟨old, he⟩, ⟨o, ho, hc, hd⟩, _⟩ := st
    rcases List.mem_cons.mp hb with z | z
    · subst z; exact ⟨_, he, fun v q => nomatch q⟩
    · rw [List.mem_singleton] at z; subst z; exact ⟨o, ho, fun v q => by rw [hd] at q; cases q⟩
  · obtain ⟨⟨old, he⟩, hi, hne⟩ := st
    exact ⟨⟨old, k e (by simp) _ he⟩, hi.at fun o q => k it (by simp) o q, hne⟩
  · intro X hP hw hK hc i pins s σ H E I hf st hg
    subst hP hw hK
    obtain ⟨⟨old, he⟩, hit, hne, hea⟩ := st
    obtain ⟨xs, x, hq, hx⟩ := hg
    obtain ⟨its, rv, tp, hz⟩ := I.tuple hq
    obtain ⟨u, hu, ru⟩ := rv.get hx
    have el : e < s.heap.objs.size := Heap.lt_size he
    have il : it < s.heap.objs.size := by obtain ⟨_, q, _⟩ := hit; exact Heap.lt_size q
    have D := Draws.tuple (prog := X.prog) (w := X.w) (A := X.A.in1) (I.ok.hd hc) it a nt its.toArray
    refine wpAny_pyNext_enum_itemD D he ⟨hit, tp⟩ (by have := (List.getElem?_eq_some_iff.mp hu).1; simpa using this) hne (by simp [hne, hea]) ?_
    intro y h' tk hy ho st' hT hsz hk
    have yu : y = u := by
      have hy' : its.toArray[i]? = some y := hy
      rw [List.getElem?_toArray, hu] at hy'
      exact (Option.some.inj hy').symm
    subst yu
    refine ⟨_, rfl, wpAny_letOwnedTupleGo_enum (s := { s with heap := h', toks := tk + 1 }) ho fun h'' he' sb => ?_⟩
    have hT2 := (sb.2 _ (Nat.ne_of_gt el)).trans hT
    have ob : ObjOk X.prog X.w (upd H s.heap.objs.size (.tup [.int (i : Nat), x])) h'' s.heap.objs.size (.tup [.int (i : Nat), x]) :=
      ⟨by show 2 ≤ sizeLine; decide, [.int i tk, y], .cons ⟨_, rfl⟩ (.cons ru .nil), ⟨_, hT2, rfl, _, rfl⟩⟩
    have I1 := I.turnedNew (ch := [e, it]) (t' := tk + 1) (fun b ob hb q => (sb.2 b (fun z => hb (by simp [z]))).trans
      (hk b ob (fun z => hb (by simp [z])) (fun z => hb (by simp [z])) q)) hf (Nat.le_refl _) ob
    refine ⟨.ref s.heap.objs.size, _, I1, rfl, ⟨_, x, rfl, I.hok.fresh (Nat.le_refl _), rfl, fun ys hy => by rw [I.tuple_inj hy hq]; exact hx⟩,
      ⟨⟨y, ?_⟩, st'.1.at fun o q => (sb.2 it (Ne.symm hne)).trans q, hne, hea⟩, fun b hb => ?_⟩
    · have e1 : ((i + 1 : Nat) : Int) = (i : Int) + 1 := by omega
      rw [e1]; exact he'
    · have bl : b < s.heap.objs.size := by
        rcases List.mem_cons.mp hb with z | z
        · subst z; exact el
        · rw [List.mem_singleton] at z; subst z; exact il
      rw [upd_ne (Nat.ne_of_lt bl)]
      exact (hf b hb).1
  · intro X hP hw hK hc i pins s σ H E I hf st hg
    subst hP hw hK
    obtain ⟨⟨old, he⟩, hit, hne, hea⟩ := st
    obtain ⟨xs, hq, hx⟩ := hg
    obtain ⟨its, rv, tp, hz⟩ := I.tuple hq
    obtain ⟨f0, f1, f2, f3, f4, f5⟩ := hf it (by simp)
    have ll := rv.length
    unfold pyNext
    have hT : s.TypeIs (.ref e) "enumerate" := ⟨_, he, rfl⟩
    refine wpAny_bind (wpAny_attempt (wpAny_callSpecial?_slot (name := Str.ofString "__next__") hT F.slot_enumerate_next
      (wpAny_call_entry F.slot_enumerate_next hT F.entry_enumerate_next ?_ (F.args_enumerate_next_1 _))))
    show wpAny _ _ (field (.ref e) 2 >>= _) _ _ _
    refine wpAny_bind (wpAny_field he rfl (x := .ref it) rfl ?_)
    refine wpAny_bind (wpAny_nextOf_tuple_end (I.ok.hd hc) hit tp (by simp; omega) fun h' x he' hx' => ?_)
    obtain ⟨o, ho, hcc⟩ := hx'
    refine wpAny_bind (wpAny_isInstance (T := "StopIteration") (b := true) ⟨o, ho, hcc⟩ isSubtype_stop ?_)
    exact wpAny_pure ⟨rfl, I.turned (t' := s.toks) (fun b o hb q => he' b o hb q) f0 f1 f3 f4 f5⟩
  · obtain ⟨⟨_, he⟩, _⟩ := st
    exact wpAny_pyIter_enum he h
def iEnumT (K : PySem.W.Frag) (ta : TA) : TI := fun σ H R => ta σ H fun vs H1 => ∃ a xs, vs = [.ref a] ∧ SqT K H1 a xs ∧ R (Iet K a) H1
theorem pi_enumT {X : Cx} {e : Expr} {ta : TA} {p pos tpos : Pos} {elts : List Expr} {kk : Nat} (hg : Gl X "enumerate")
    (hm : X.mg "enumerate" = none) (ha : PA X [e] ta) (hs : starEach [e] X.env = [(false, eval e X.env)] := by rfl) :
    PI X (.Tuple elts kk tpos) (.Call (.Name "enumerate" p) [e] [] pos) (iEnumT X.K ta) := by
  constructor
  intro pins s σ H R I h
  refine Call_ (ld_blt I hg hm boot_enumerate (PyProof.Rows.callWith_type1 (thn (ha.run pos pins s σ H _ I h) ?_) hs rfl))
  rintro us s1 ⟨vs, H1, I1, rv, a, xs, rfl, hq, q⟩
  obtain ⟨u, rfl, ru⟩ := vals1 rv
  obtain rfl : u = Value.ref a := ru
  obtain ⟨its, rv', tp, hz⟩ := I1.tuple hq
  have al : a < s1.heap.objs.size := tp.lt
  refine gx_call_enum tp fun h' he hit hk => wpAny_pyIter_enum he ?_
  have I2 : Inv X pins σ H1 { s1 with heap := h' } := I1.kept (t' := s1.toks) hk
  refine ⟨s1.heap.objs.size + 1, [s1.heap.objs.size + 1, s1.heap.objs.size], _, _, H1, rfl, I2,
    turn_enumT a (s1.heap.objs.size + 1) s1.heap.objs.size (Nat.ne_of_lt al),
    ⟨⟨.none, he⟩, hit, Nat.succ_ne_self _, Nat.ne_of_gt (Nat.lt_succ_of_lt al)⟩, fun b hb => ?_, q⟩
  have hle : s1.heap.objs.size ≤ b := by
    rcases List.mem_cons.mp hb with z | z
    · subst z; exact Nat.le_succ _
    · rw [List.mem_singleton] at z; subst z; exact Nat.le_refl _
  exact I1.fpOk hle (I1.hok.fresh hle)
theorem for_enumT {K : PySem.W.Frag} {a : Addr} {xs : List V} {g : TG} {tb : TS} {D : Ends} {σ : L2.St} {H : Hp} (Pv : Nat → L2.St → Hp → Prop)
    (h0 : Pv 0 σ H) (hl : ∀ i σ H, i ≤ xs.length → Pv i σ H → SqT K H a xs)
    (hs : ∀ i x T σ H, xs[i]? = some x → Pv i σ H → H T = none →
      g (.ref T) σ (upd H T (.tup [.int (i : Nat), x])) fun σ2 H2 => tb { D with nx := Pv (i + 1), ct := Pv (i + 1), bk := D.nx } σ2 H2)
    (hd : ∀ σ H, Pv xs.length σ H → D.nx σ H) :
    ∃ W : Nat → Nat → L2.St → Hp → Prop, (∃ m, W 0 m σ H) ∧ ∀ i m σ H, W i m σ H →
      ((Iet K a).stop i H ∧ D.nx σ H) ∨ ((Iet K a).go i H ∧ ∃ N : L2.St → Hp → Prop, (∀ σ' H', N σ' H' → ∃ m', m' < m ∧ W (i + 1) m' σ' H') ∧
        ∀ x H', (Iet K a).yld i H x H' → g x σ H' fun σ2 H2 => tb { D with nx := N, ct := N, bk := D.nx } σ2 H2) := by
  refine ⟨fun i m σ H => m = xs.length - i ∧ i ≤ xs.length ∧ Pv i σ H, ⟨xs.length, by simp, Nat.zero_le _, h0⟩, ?_⟩
  rintro i m σ H ⟨rfl, hi, p⟩
  have q := hl i σ H hi p
  by_cases hlt : i < xs.length
  · refine .inr ⟨⟨xs, xs[i], q, List.getElem?_eq_getElem hlt⟩, Pv (i + 1), fun σ' H' p' => ⟨_, by omega, rfl, hlt, p'⟩, ?_⟩
    rintro v H' ⟨T, x, rfl, nT, rfl, hx⟩
    exact hs i x T σ H (hx xs q) p nT
  · have e : i = xs.length := by omega
    subst e
    exact .inl ⟨⟨xs, q, Nat.le_refl _⟩, hd σ H p⟩
end Gx

set_option Elab.async false
set_option linter.all false
set_option maxRecDepth 100000
set_option maxHeartbeats 2000000
namespace Gx
open PySem PySem.Spec PyProof.Rows L2 Evl
/-! Steps: what they are, what they lead a number to, how they lie in the heap. -/
inductive Stp where
  | plus (k : Int) | times (k : Int) | into (k : Int) | over (k : Int) | found (ps : List (Int × Int))
abbrev Near (k : Int) : Prop := -1000000000000 ≤ k ∧ k ≤ 1000000000000
def Stp.ok : Stp → Prop
  | .plus k => Near k
  | .times k => Near k ∧ k ≠ 0
  | .into k => 0 < k ∧ k ≤ 1000000000000
  | .over k => Near k
  | .found ps => (ps.map (·.1)).Nodup ∧ (∀ p ∈ ps, Near p.1 ∧ Near p.2) ∧ ps.length ≤ 8
def look (ps : List (Int × Int)) (n : Int) : Option Int := (ps.find? fun p => decide (p.1 = n)).map (·.2)
def lead : Stp → Int → Option Int
  | .plus k, n => some (n + k)
  | .times k, n => some (n * k)
  | .into k, n => some (n.fdiv k)
  | .over k, n => if n = 0 then none else some (k.fdiv n)
  | .found ps, n => look ps n
def leadAll : List Stp → Int → Option Int
  | [], n => some n
  | s :: r, n => match lead s n with
    | some m => leadAll r m
    | none => none
/-- the number at which steps err -/
def erredAt : List Stp → Int → Option Int
  | [], _ => none
  | s :: r, n => match lead s n with
    | some m => erredAt r m
    | none => some n
theorem leadAll_none {ss : List Stp} : ∀ {n : Int}, leadAll ss n = none → ∃ m, erredAt ss n = some m := by
  induction ss with
  | nil => intro n h; cases h
  | cons s r ih =>
    intro n h
    unfold leadAll at h
    unfold erredAt
    cases e : lead s n with
    | none => exact ⟨n, rfl⟩
    | some m => rw [e] at h; exact ih h
theorem leadAll_some {ss : List Stp} : ∀ {n m : Int}, leadAll ss n = some m → erredAt ss n = none := by
  induction ss with
  | nil => intro n m h; rfl
  | cons s r ih =>
    intro n m h
    unfold leadAll at h
    unfold erredAt
    cases e : lead s n with
    | none => rw [e] at h; cases h
    | some m => rw [e] at h; exact ih h
/-! ### how great the numbers grow -/
theorem fdiv_abs {a b : Int} (hb : b ≠ 0) : (a.fdiv b).natAbs ≤ a.natAbs := by
  have h1 := Int.mul_fdiv_add_fmod a b
  by_cases pb : 0 < b
  · rw [Int.fdiv_eq_ediv_of_nonneg a (by omega)]
    by_cases pa : 0 ≤ a
    · have := Int.ediv_le_self b pa
      have := Int.ediv_nonneg pa (by omega : 0 ≤ b)
      omega
    · have q1 : a ≤ a / b := by
        have := Int.mul_ediv_self_le (x := a) (k := b) (by omega)
        have q2 := Int.lt_mul_ediv_self_add (x := a) pb
        by_cases z : a / b ≤ a - 1
        · have : b * (a / b) ≤ b * (a - 1) := Int.mul_le_mul_of_nonneg_left z (by omega)
          have e : b * (a - 1) = b * a - b := by rw [Int.mul_sub, Int.mul_one]
          have : b * a ≤ 1 * a := Int.mul_le_mul_of_nonpos_right (by omega) (by omega)
          omega
        · omega
      have q3 : a / b < 0 := Int.ediv_neg_of_neg_of_pos (by omega) pb
      omega
  · have e : a.fdiv b = (-a).fdiv (-b) := (Int.neg_fdiv_neg a b).symm
    rw [e, Int.fdiv_eq_ediv_of_nonneg (-a) (by omega)]
    by_cases pa : 0 ≤ -a
    · have := Int.ediv_le_self (-b) pa
      have := Int.ediv_nonneg pa (by omega : 0 ≤ -b)
      omega
    · have pb' : 0 < -b := by omega
      have q1 : -a ≤ -a / -b := by
        have q2 := Int.lt_mul_ediv_self_add (x := -a) pb'
        by_cases z : -a / -b ≤ -a - 1
        · have : -b * (-a / -b) ≤ -b * (-a - 1) := Int.mul_le_mul_of_nonneg_left z (by omega)
          have e : -b * (-a - 1) = -b * -a - -b := by rw [Int.mul_sub, Int.mul_one]
          have : -b * -a ≤ 1 * -a := Int.mul_le_mul_of_nonpos_right (by omega) (by omega)
          omega
        · omega
      have q3 : -a / -b < 0 := Int.ediv_neg_of_neg_of_pos (by omega) pb'
      omega
theorem near_abs {k : Int} (h : Near k) : k.natAbs < 1099511627776 := by
  obtain ⟨h1, h2⟩ := h
  omega
theorem look_mem {ps : List (Int × Int)} {n m : Int} (h : look ps n = some m) : (n, m) ∈ ps := by
  unfold look at h
  obtain ⟨p, h1, h2⟩ := Option.map_eq_some_iff.mp h
  have := List.mem_of_find?_eq_some h1
  have e := List.find?_some h1
  simp at e
  obtain ⟨a, b⟩ := p
  simp only at e h2
  subst e h2
  exact this
theorem mul_big (a c B : Nat) (h1 : a < B) (h2 : c < 1099511627776) : a * c < B * 2199023255552 :=
  Nat.lt_of_lt_of_le (Nat.mul_lt_mul'' h1 h2) (Nat.mul_le_mul_left B (by decide))
theorem lead_big {s : Stp} {n m : Int} {b : Nat} (hs : s.ok) (hn : n.natAbs < 2 ^ b) (h : lead s n = some m) : m.natAbs < 2 ^ (b + 41) := by
  have p1 : (2 : Nat) ^ (b + 41) = 2 ^ b * 2 ^ 41 := Nat.pow_add 2 b 41
  have p2 : (2 : Nat) ^ 41 = 2199023255552 := by decide
  have p4 : 1 ≤ (2 : Nat) ^ b := Nat.one_le_two_pow
  generalize hB : (2 : Nat) ^ b = B at *
  rw [p1, p2]
  cases s with
  | plus k =>
    have q := near_abs hs
    have h : some (n + k) = some m := h
    injection h with h
    omega
  | times k =>
    have q := near_abs hs.1
    have h : some (n * k) = some m := h
    injection h with h
    rw [← h, Int.natAbs_mul]
    exact mul_big _ _ _ hn q
  | into k =>
    have h : some (n.fdiv k) = some m := h
    injection h with h
    have q : k ≠ 0 := by have := hs.1; omega
    have := fdiv_abs (a := n) q
    omega
  | over k =>
    have h : (if n = 0 then none else some (k.fdiv n)) = some m := h
    by_cases h0 : n = 0
    · rw [if_pos h0] at h; cases h
    · rw [if_neg h0] at h
      injection h with h
      have := fdiv_abs (a := k) h0
      have := near_abs hs
      omega
  | found ps =>
    have := look_mem h
    have := near_abs (hs.2.1 _ this).2
    simp only at this
    omega
/-! ### what never changes stands -/
def imm : HO → Bool
  | .tup _ => true
  | .frz _ _ => true
  | _ => false
def ExI (H H' : Hp) : Prop := ∀ a o, H a = some o → imm o = true → H' a = some o
theorem ExI.of {H H' : Hp} (e : Ex H H') : ExI H H' := fun a o h _ => e a o h
theorem ExI.trans {H H1 H2 : Hp} (a : ExI H H1) (b : ExI H1 H2) : ExI H H2 := fun c o h i => b c o (a c o h i) i
theorem ExI.put {H : Hp} {l : Addr} {u u' : HO} (h : H l = some u) (n : imm u = false) : ExI H (upd H l u') := fun a o q i => by
  rw [upd_ne (fun e => by subst e; rw [h] at q; cases q; rw [n] at i; cases i)]
  exact q
theorem ExI.sq {K : PySem.W.Frag} {H H' : Hp} {a : Addr} {xs : List V} (e : ExI H H') (h : SqT K H a xs) : SqT K H' a xs := by
  rcases h with (h | ⟨o, h⟩) | h
  · exact .inl (.inl (e _ _ h rfl))
  · exact .inl (.inr ⟨o, e _ _ h rfl⟩)
  · exact .inr h
/-! ### how they lie -/
def PairAt (K : PySem.W.Frag) (H : Hp) (p : Addr) (kv : Int × Int) : Prop := SqT K H p [.int kv.1, .int kv.2]
def StpAt (K : PySem.W.Frag) (H : Hp) (v : V) : Stp → Prop
  | .plus k => ∃ a, v = .ref a ∧ SqT K H a [.str "plus", .int k]
  | .times k => ∃ a, v = .ref a ∧ SqT K H a [.str "times", .int k]
  | .into k => ∃ a, v = .ref a ∧ SqT K H a [.str "into", .int k]
  | .over k => ∃ a, v = .ref a ∧ SqT K H a [.str "over", .int k]
  | .found ps => ∃ a c as, v = .ref a ∧ SqT K H a [.str "found", .ref c] ∧ ExT H c (as.map V.ref) ∧ Paired (PairAt K H) as ps
def pairD (kv : Int × Int) : PyData := .tuple [.int kv.1, .int kv.2]
def Stp.data : Stp → PyData
  | .plus k => .tuple [.str "plus", .int k]
  | .times k => .tuple [.str "times", .int k]
  | .into k => .tuple [.str "into", .int k]
  | .over k => .tuple [.str "over", .int k]
  | .found ps => .tuple [.str "found", .tuple (ps.map pairD)]
section
variable {K : PySem.W.Frag} {H H' : Hp}
theorem paired_to {as : List Addr} {ps : List (Int × Int)} (e : Ex H H') (h : Paired (PairAt K H) as ps) : Paired (PairAt K H') as ps :=
  L2.Paired.mapP h fun _ _ q => ex_t e q
theorem StpAt.to {v : V} {s : Stp} (h : StpAt K H v s) (e : Ex H H') : StpAt K H' v s := by
  cases s with
  | found ps =>
    obtain ⟨a, c, as, h1, h2, h3, h4⟩ := h
    exact ⟨a, c, as, h1, ex_t e h2, h3.to e, paired_to e h4⟩
  | _ => obtain ⟨a, h1, h2⟩ := h; exact ⟨a, h1, ex_t e h2⟩
theorem pairs_dp : ∀ {as : List Addr} {ps : List (Int × Int)}, Paired (PairAt K H) as ps → DpAll K H (as.map V.ref) (ps.map pairD)
  | _, _, .nil => .nil
  | _, _, .cons h t => .cons (.tup h (.cons (.int _) (.cons (.int _) .nil))) (pairs_dp t)
theorem StpAt.dp {v : V} {s : Stp} (h : StpAt K H v s) : Dp K H v s.data := by
  cases s with
  | found ps =>
    obtain ⟨a, c, as, rfl, h2, h3, h4⟩ := h
    exact .tup h2 (.cons (.str _) (.cons (.tup h3.sq (pairs_dp h4)) .nil))
  | _ => obtain ⟨a, rfl, h2⟩ := h; exact .tup h2 (.cons (.str _) (.cons (.int _) .nil))
theorem StpAt.toI {v : V} {s : Stp} (h : StpAt K H v s) (e : ExI H H') : StpAt K H' v s := by
  cases s with
  | found ps =>
    obtain ⟨a, c, as, h1, h2, ⟨o, h3, h5⟩, h4⟩ := h
    exact ⟨a, c, as, h1, e.sq h2, ⟨o, e _ _ h3 rfl, h5⟩, L2.Paired.mapP h4 fun _ _ q => e.sq q⟩
  | _ => obtain ⟨a, h1, h2⟩ := h; exact ⟨a, h1, e.sq h2⟩
abbrev StpsAt (K : PySem.W.Frag) (H : Hp) (vs : List V) (ss : List Stp) : Prop := Paired (StpAt K H) vs ss
theorem stps_to {vs : List V} {ss : List Stp} (h : StpsAt K H vs ss) (e : Ex H H') : StpsAt K H' vs ss := L2.Paired.mapP h fun _ _ q => q.to e
theorem stps_toI {vs : List V} {ss : List Stp} (h : StpsAt K H vs ss) (e : ExI H H') : StpsAt K H' vs ss := L2.Paired.mapP h fun _ _ q => q.toI e
theorem stps_dp : ∀ {vs : List V} {ss : List Stp}, StpsAt K H vs ss → DpAll K H vs (ss.map Stp.data)
  | _, _, .nil => .nil
  | _, _, .cons h t => .cons h.dp (stps_dp t)
theorem paired_get {α β : Type} {F : α → β → Prop} : ∀ {xs : List α} {ys : List β}, Paired F xs ys → ∀ {i : Nat} {x : α}, xs[i]? = some x → ∃ y, ys[i]? = some y ∧ F x y
  | _, _, .nil, i, x, e => by simp at e
  | _, _, .cons h t, 0, x, e => by simp at e; subst e; exact ⟨_, by simp, h⟩
  | _, _, .cons h t, i + 1, x, e => by
    obtain ⟨y, q1, q2⟩ := paired_get t (i := i) (by simpa using e)
    exact ⟨y, by simpa using q1, q2⟩
theorem paired_app {α β : Type} {F : α → β → Prop} : ∀ {xs xs' : List α} {ys ys' : List β}, Paired F xs ys → Paired F xs' ys' → Paired F (xs ++ xs') (ys ++ ys')
  | _, _, _, _, .nil, q => q
  | _, _, _, _, .cons h t, q => .cons h (paired_app t q)
theorem paired_take {α β : Type} {F : α → β → Prop} : ∀ (n : Nat) {xs : List α} {ys : List β}, Paired F xs ys → Paired F (xs.take n) (ys.take n)
  | 0, _, _, _ => .nil
  | _ + 1, _, _, .nil => .nil
  | n + 1, _, _, .cons h t => .cons h (paired_take n t)
theorem shaped_pairs : ∀ ps : List (Int × Int), PyData.canLayAll0 (ps.map pairD) = true ∧ PyData.depthAll (ps.map pairD) ≤ 1
  | [] => ⟨rfl, by decide⟩
  | p :: r => by
    obtain ⟨h1, h2⟩ := shaped_pairs r
    refine ⟨?_, ?_⟩
    · simp [PyData.canLayAll0, pairD, PyData.canLay0, h1]
    · simp only [List.map_cons, PyData.depthAll, pairD, PyData.depth] at h2 ⊢
      omega
end
end Gx

set_option Elab.async false
set_option linter.all false
set_option maxRecDepth 100000
set_option maxHeartbeats 2000000
namespace Gx
open PySem PySem.Spec PyProof.Rows L2 Evl
/-! What the helpers of the laws promise. -/
def spOne (K : PySem.W.Frag) : Sp := fun vs H Q _ => ∃ (b l : Addr) (xs : List V), vs = [.ref b, .ref l] ∧ Bag H b ∧ SqL K H l xs ∧
  0 < xs.length ∧ xs.length < 100000 ∧ ∀ x ∈ xs, Q x H
def spNumber : Sp := fun vs H Q _ => ∃ b : Addr, vs = [.ref b] ∧ Bag H b ∧ ∀ x : Int, Near x → ∀ H', Ex H H' → Q (.int x) H'
def spStep (K : PySem.W.Frag) : Sp := fun vs H Q _ => ∃ b : Addr, vs = [.ref b] ∧ Bag H b ∧
  ∀ v s H', Ex H H' → Stp.ok s → StpAt K H' v s → Q v H'
def spSteps (K : PySem.W.Frag) : Sp := fun vs H Q _ => ∃ b : Addr, vs = [.ref b, .int 4] ∧ Bag H b ∧
  ∀ a ws ss H', Ex H H' → ss.length ≤ 4 → (∀ s ∈ ss, Stp.ok s) → ExT H' a ws → StpsAt K H' ws ss → Q (.ref a) H'
theorem if_t {c : Bool} {A B : Prop} (hc : c = true) (h : A) : if c = true then A else B := by rw [if_pos hc]; exact h
theorem if_f {c : Bool} {A B : Prop} (hc : c = false) (h : B) : if c = true then A else B := by
  rw [hc, if_neg Bool.false_ne_true]; exact h
theorem cut_take (xs : List V) (n : Nat) : cutV xs none (some (n : Int)) = xs.take n := by
  unfold cutV
  rw [show HT.sIx xs.length 0 none = 0 from rfl, List.drop_zero, Nat.sub_zero]
  have e : HT.sIx xs.length xs.length (some (n : Int)) = min n xs.length := by
    show (if (n : Int) < 0 then ((n : Int) + xs.length).toNat else min (n : Int).toNat xs.length) = min n xs.length
    rw [if_neg (by omega), Int.toNat_natCast]
  rw [e]
  by_cases q : n ≤ xs.length
  · rw [Nat.min_eq_left q]
  · rw [Nat.min_eq_right (by omega), List.take_length, List.take_of_length_le (by omega)]
theorem sz1 : (1 : Nat) ≤ sizeLine := by decide
theorem sz2 : (2 : Nat) ≤ sizeLine := by decide
theorem sz3 : (3 : Nat) ≤ sizeLine := by decide
theorem sz4 : (4 : Nat) ≤ sizeLine := by decide
theorem sz5 : (5 : Nat) ≤ sizeLine := by decide
theorem small {n : Nat} (h : n ≤ 100000) : n < sizeLine := Nat.lt_of_le_of_lt h (by decide)
theorem p10_12 : (10 : Int) ^ (12 : Int).toNat = 1000000000000 := by decide
theorem p10_11 : (10 : Int) ^ (11 : Int).toNat = 100000000000 := by decide
/-- an item of a short written list -/
theorem item2 {a b : V} {i : Int} (h0 : 0 ≤ i) (h1 : i < 2) : atI [a, b] i = some a ∧ i = 0 ∨ atI [a, b] i = some b ∧ i = 1 := by
  rcases (by omega : i = 0 ∨ i = 1) with rfl | rfl
  · exact .inl ⟨rfl, rfl⟩
  · exact .inr ⟨rfl, rfl⟩
theorem item_in {xs : List V} {i : Int} (h0 : 0 ≤ i) (h1 : i < xs.length) : ∃ v, atI xs i = some v ∧ v ∈ xs := by
  obtain ⟨v, e, m⟩ := get_of h0 h1
  exact ⟨v, atI_of h0 e, m⟩
theorem cp10_12 : CPow 10 12 := ⟨by decide, by decide, by decide⟩
theorem cp10_11 : CPow 10 11 := ⟨by decide, by decide, by decide⟩
end Gx

set_option Elab.async false
set_option linter.all false
set_option maxRecDepth 100000
set_option maxHeartbeats 2000000
namespace Gx
open PySem PySem.Spec PyProof.Rows L2 Evl
/-! An error class of the package with one field: raised, caught, its field read. -/
/-- what the head tells of the class x at C, whose __init__ (the def st, at fI) stores the field fl -/
structure Err (K : PySem.W.Frag) (mg : Str → Option Value) (x qual fl : Str) (ps : List Str) (st : Stmt) (C fI : Addr) (fd : FuncData) : Prop where
  T : OexC K C
  gC : mg x = some (.ref C)
  iC : PySem.W.findIn K (.ref C) "__init__" = some (some (.ref fI))
  tI : PySem.W.typeIn K (.ref fI) = some (.type "function")
  no : PySem.W.findIn K (.ref C) fl = some none
  xf : XfC K C
  te : PySem.W.exmOne K (.ref C) (.ref C) = some true
  fn : Fun K "__init__" qual st fI fd
  bd : Binds K fd ps []
/-- __init__: the field is stored -/
def spInit (C : Addr) (fl : Str) : Sp := fun vs H Q _ => ∃ (a : Addr) (v : V), vs = [.ref a, v] ∧ H a = some (exo a C none) ∧
  ∀ dx, H dx = none → dx ≠ a → Q .non (upd (upd H dx (exd dx [(fl, v)])) a (exo a C (some dx)))
/-- .. and what a raise of it comes to -/
theorem raise_read {C : Addr} {fl : Str} {ta : TA} {σ : L2.St} {H : Hp} {W : XK} {v : V} {H1 : Hp}
    (ha : ∀ Q : List V → Hp → Prop, Q [v] H1 → ta σ H Q)
    (k : ∀ d H', Ex H1 H' → H' d = some (.xd [(fl, v)]) → W (.ref C) (some d) H') :
    tMkO C (spInit C fl) [] ta σ H W := by
  refine ha _ ⟨by show 1 ≤ 1000; decide, fun a na => ⟨a, v, rfl, upd_same, fun dx nd nda => ⟨rfl, dx, [(fl, v)], upd_same, ?_, ?_, ?_⟩⟩⟩
  · rw [upd_ne nda]; exact upd_same
  · rw [upd_ne nda] at nd; exact nd
  · have nd' : H1 dx = none := by rw [upd_ne nda] at nd; exact nd
    refine k dx _ (fun c o e => ?_) upd_same
    have c1 : c ≠ dx := ne_of_none e nd'
    have c2 : c ≠ a := ne_of_none e na
    rw [upd_ne c1, del_ne c2, upd_ne c2, upd_ne c1, upd_ne c2]
    exact e
/-- the field of the caught error -/
theorem field_read {C a d : Addr} {fl : Str} {v : V} {te : TE} {σ : L2.St} {H : Hp} {Q : VK}
    (ht : ∀ Q : VK, Q (.ref a) H → te σ H Q) (hd : H d = some (.xd [(fl, v)])) (q : Q v H) : tXf a (.ref C) (some d) C fl te σ H Q :=
  ht _ ⟨rfl, rfl, d, _, v, rfl, hd, by simp [List.lookup], q⟩
/-- a tuple's item where the context is another than the written part's -/
theorem ix_tupK {X : Cx} {K : PySem.W.Frag} (h : X.K = K) : IxR X (rIxT K) := by rw [← h]; exact ix_tup
end Gx

set_option Elab.async false
set_option linter.all false
set_option maxRecDepth 100000
set_option maxHeartbeats 2000000
namespace Gx
open PySem PySem.Spec PyProof.Rows L2 Evl
/-! A list times a number. -/
def rRepL (K : PySem.W.Frag) : R2 := fun x y H Q => ∃ (l : Addr) (k : Int) (xs : List V), x = .ref l ∧ y = .int k ∧ SqL K H l xs ∧
  0 ≤ k ∧ k ≤ 100000 ∧ xs.length ≤ 100 ∧ ∀ p, H p = none → Q (.ref p) (upd H p (.lst (List.replicate k.toNat xs).flatten))
theorem flat_rep (its : List Value) (m : Nat) :
    List.foldl (fun x1 x2 => x1 ++ x2) #[] (List.replicate m its.toArray) = (List.replicate m its).flatten.toArray := by
  have go : ∀ (m : Nat) (acc : List Value), List.foldl (fun x1 x2 => x1 ++ x2) acc.toArray (List.replicate m its.toArray) = (acc ++ (List.replicate m its).flatten).toArray := by
    intro m
    induction m with
    | zero => intro acc; simp
    | succ m ih =>
      intro acc
      rw [List.replicate_succ, List.foldl_cons, List.append_toArray, ih, List.replicate_succ, List.flatten_cons, List.append_assoc]
  simpa using go m []
section
variable {X : Cx}
theorem op_repL : OpR X (binaryOp .Mult) (rRepL X.K) := by
  intro pins s σ H x y v u Q I rx ry h
  obtain ⟨l, k, xs, rfl, rfl, hs, k0, kb, hx, q⟩ := h
  obtain rfl : v = Value.ref l := rx
  obtain ⟨t, rfl⟩ := ry
  obtain ⟨its, r', ⟨o, n, ho, hc, hd, hdat⟩, hz⟩ := I.list hs
  have hl := r'.length
  obtain ⟨oc, od, odat, osl⟩ := o
  simp only at hc hd hdat
  subst hc hd hdat
  have ty : s.TypeIs (.ref l) "list" := ⟨_, ho, rfl⟩
  have kn : its.length * k.toNat ≤ 10000000 := Nat.le_trans (Nat.mul_le_mul (show its.length ≤ 100 by omega) (show k.toNat ≤ 100000 by omega)) (by decide)
  refine wpAny_binaryOp_repeat_ref (T := "list") (U := "int") (by decide) ty (fun s' => typeIs_int s' k t) noFill_list_mul F.fills_int_mul F.slot_int_rmul repeat_list F.slot_int_index.lookup ?_
  refine call_meets F.slot_int_rmul (typeIs_int s k t) F.entry_int_rmul (F.args_int_rmul_2 _ _) (lm_int_rmul_list_any k t l its.toArray n none osl) ⟨ho, rfl, ty, ?_⟩
  have bad : Builtin.List.listTooLong (its.toArray.size * k.toNat) = false := by
    refine decide_eq_false ?_
    rw [List.size_toArray, sizeLine_eq]
    omega
  refine call_meets F.slot_list_mul ty F.entry_list_mul (F.args_list_mul_2 _ _) (lm_list_mul_any l its.toArray n none osl k t ?_ ?_ (by rw [bad]; exact Bool.false_ne_true)) ⟨ho, ?_⟩
  · have e : Builtin.List.listFitsIndex k = true := by
      unfold Builtin.List.listFitsIndex
      rw [Bool.and_eq_true]
      exact ⟨decide_eq_true (by omega), decide_eq_true (by omega)⟩
    rw [e]; decide
  · rw [List.size_toArray]; omega
  · have e : List.foldl (fun x1 x2 => x1 ++ x2) #[] (List.replicate (if its.toArray.isEmpty = true then 0 else k.toNat) its.toArray) = (List.replicate k.toNat its).flatten.toArray := by
      cases its with
      | nil => simp
      | cons a r => rw [if_neg (by simp)]; exact flat_rep _ _
    rw [e]
    have ln : (List.replicate k.toNat xs).flatten.length ≤ sizeLine := by
      rw [lm_len_rep_flat, hl, sizeLine_eq, Nat.mul_comm]
      omega
    have hn : H s.heap.objs.size = none := I.hok.fresh (Nat.le_refl _)
    have I2 := I.laid (t' := s.toks) (a := s.heap.objs.size) (o := .lst (List.replicate k.toNat xs).flatten)
      (h' := s.heap.push { cls := .type "list", data := .seq (List.replicate k.toNat its).flatten.toArray }) (fun b o e => Heap.get?_push_of_some _ e) (Nat.le_refl _)
      ⟨?_, ?_⟩
    · exact ⟨.ref s.heap.objs.size, _, I2, rfl, q _ hn⟩
    · exact ln
    · exact ⟨_, _, r'.rep k.toNat, Heap.get?_push_size _ rfl⟩
/-- a list's item where the context is another than the written part's -/
theorem ix_listK {K : PySem.W.Frag} (h : X.K = K) : IxR X (rIxL K) := by rw [← h]; exact ix_list
end
theorem takeS {α : Type} {l : List α} {j : Nat} {x : α} (h : l[j]? = some x) : l.take (j + 1) = l.take j ++ [x] := by
  rw [List.take_add_one, h]
  rfl
end Gx

set_option Elab.async false
set_option linter.all false
set_option maxRecDepth 100000
set_option maxHeartbeats 4000000
namespace Gx
open PySem PySem.Spec PyProof.Rows L2 Evl
/-! Conditions: what they are, how they lie in the heap. -/
inductive Leaf where
  | always (w : Str) | empty (n : Str) | number (n : Str) | asks (n : Str) (ss : List Stp) (sg : Str) (k : Int)
inductive Cnd where
  | leaf (l : Leaf)
  | not (c : Cnd)
  | node (k : Str) (cs : List Cnd)
  | case (ws ts : List Cnd) (e : Cnd)
def Leaf.data : Leaf → PyData
  | .always w => .tuple [.str "always", .str w]
  | .empty n => .tuple [.str "empty", .str n]
  | .number n => .tuple [.str "number", .str n]
  | .asks n ss sg k => .tuple [.str "asks", .str n, .tuple (ss.map Stp.data), .str sg, .int k]
def pairL : List PyData → List PyData → List PyData
  | a :: as, b :: bs => .tuple [a, b] :: pairL as bs
  | _, _ => []
mutual
def Cnd.data : Cnd → PyData
  | .leaf l => l.data
  | .not c => .tuple [.str "not", c.data]
  | .node k cs => .tuple [.str k, .tuple (Cnd.dataL cs)]
  | .case ws ts e => .tuple [.str "case", .tuple (pairL (Cnd.dataL ws) (Cnd.dataL ts)), e.data]
def Cnd.dataL : List Cnd → List PyData
  | [] => []
  | c :: cs => c.data :: Cnd.dataL cs
end
def sgns : List Str := ["<", "<=", "<>", "=", ">", ">="]
def words : List Str := ["error", "no", "unknown", "yes"]
def kinds : List Str := ["all", "any", "first"]
def Leaf.ok (ns : List Str) : Leaf → Prop
  | .always w => w ∈ words
  | .empty n => n ∈ ns
  | .number n => n ∈ ns
  | .asks n ss sg k => n ∈ ns ∧ (∀ s ∈ ss, Stp.ok s) ∧ ss.length ≤ 4 ∧ sg ∈ sgns ∧ Near k
mutual
def Cnd.ok (ns : List Str) : Cnd → Prop
  | .leaf l => l.ok ns
  | .not c => c.ok ns
  | .node k cs => k ∈ kinds ∧ Cnd.okL ns cs
  | .case ws ts e => ws.length = ts.length ∧ Cnd.okL ns ws ∧ Cnd.okL ns ts ∧ e.ok ns
def Cnd.okL (ns : List Str) : List Cnd → Prop
  | [] => True
  | c :: cs => c.ok ns ∧ Cnd.okL ns cs
end
mutual
def Cnd.depth : Cnd → Nat
  | .leaf _ => 0
  | .not c => c.depth + 1
  | .node _ cs => Cnd.depthL cs + 1
  | .case ws ts e => max (max (Cnd.depthL ws) (Cnd.depthL ts)) e.depth + 1
def Cnd.depthL : List Cnd → Nat
  | [] => 0
  | c :: cs => max c.depth (Cnd.depthL cs)
end
mutual
def Cnd.weight : Cnd → Nat
  | .leaf _ => 200000
  | .not c => c.weight + 40
  | .node _ cs => Cnd.weightL cs + 40
  | .case ws ts e => Cnd.weightL ws + Cnd.weightL ts + e.weight + 40
def Cnd.weightL : List Cnd → Nat
  | [] => 0
  | c :: cs => c.weight + Cnd.weightL cs + 20
end
theorem Cnd.okL_iff {ns : List Str} : ∀ {cs : List Cnd}, Cnd.okL ns cs ↔ ∀ c ∈ cs, c.ok ns
  | [] => by simp [Cnd.okL]
  | c :: cs => by
    rw [Cnd.okL, Cnd.okL_iff (cs := cs)]
    simp
theorem Cnd.depthL_le {n : Nat} : ∀ {cs : List Cnd}, Cnd.depthL cs ≤ n ↔ ∀ c ∈ cs, c.depth ≤ n
  | [] => by simp [Cnd.depthL]
  | c :: cs => by
    rw [Cnd.depthL, Nat.max_le, Cnd.depthL_le (cs := cs)]
    simp
theorem Cnd.dataL_map : ∀ cs : List Cnd, Cnd.dataL cs = cs.map Cnd.data
  | [] => rfl
  | c :: cs => by rw [Cnd.dataL, Cnd.dataL_map cs]; rfl
/-! ### in the heap -/
def Zip3 (K : PySem.W.Frag) (H : Hp) : List Addr → List V → List V → Prop
  | [], [], [] => True
  | q :: qs, x :: xs, y :: ys => SqT K H q [x, y] ∧ Zip3 K H qs xs ys
  | _, _, _ => False
def LeafAt (K : PySem.W.Frag) (H : Hp) (v : V) : Leaf → Prop
  | .always w => ∃ a, v = .ref a ∧ SqT K H a [.str "always", .str w]
  | .empty n => ∃ a, v = .ref a ∧ SqT K H a [.str "empty", .str n]
  | .number n => ∃ a, v = .ref a ∧ SqT K H a [.str "number", .str n]
  | .asks n ss sg k => ∃ a b ws, v = .ref a ∧ SqT K H a [.str "asks", .str n, .ref b, .str sg, .int k] ∧ SqT K H b ws ∧ StpsAt K H ws ss
mutual
def CndAt (K : PySem.W.Frag) (H : Hp) : V → Cnd → Prop
  | v, .leaf l => LeafAt K H v l
  | v, .not c => ∃ a x, v = .ref a ∧ SqT K H a [.str "not", x] ∧ CndAt K H x c
  | v, .node k cs => ∃ a b xs, v = .ref a ∧ SqT K H a [.str k, .ref b] ∧ SqT K H b xs ∧ CndsAt K H xs cs
  | v, .case ws ts e => ∃ a b qs xs ys y, v = .ref a ∧ SqT K H a [.str "case", .ref b, y] ∧ SqT K H b (qs.map V.ref) ∧ Zip3 K H qs xs ys ∧
      CndsAt K H xs ws ∧ CndsAt K H ys ts ∧ CndAt K H y e
def CndsAt (K : PySem.W.Frag) (H : Hp) : List V → List Cnd → Prop
  | xs, [] => xs = []
  | xs, c :: cs => ∃ x r, xs = x :: r ∧ CndAt K H x c ∧ CndsAt K H r cs
end
section
variable {K : PySem.W.Frag} {H H' : Hp}
theorem zip3_toI (e : ExI H H') : ∀ {qs : List Addr} {xs ys : List V}, Zip3 K H qs xs ys → Zip3 K H' qs xs ys
  | [], [], [], h => trivial
  | _ :: _, _ :: _, _ :: _, h => ⟨e.sq h.1, zip3_toI e h.2⟩
  | [], _ :: _, _, h => h.elim
  | [], [], _ :: _, h => h.elim
  | _ :: _, [], _, h => h.elim
  | _ :: _, _ :: _, [], h => h.elim
theorem leafAt_toI {v : V} {l : Leaf} (e : ExI H H') (h : LeafAt K H v l) : LeafAt K H' v l := by
  cases l with
  | asks n ss sg k =>
    obtain ⟨a, b, ws, h1, h2, h3, h4⟩ := h
    exact ⟨a, b, ws, h1, e.sq h2, e.sq h3, stps_toI h4 e⟩
  | _ => obtain ⟨a, h1, h2⟩ := h; exact ⟨a, h1, e.sq h2⟩
mutual
theorem cndAt_toI (e : ExI H H') : ∀ (c : Cnd) (v : V), CndAt K H v c → CndAt K H' v c
  | .leaf l, v, h => leafAt_toI e h
  | .not c, v, ⟨a, x, h1, h2, h3⟩ => ⟨a, x, h1, e.sq h2, cndAt_toI e c x h3⟩
  | .node k cs, v, ⟨a, b, xs, h1, h2, h3, h4⟩ => ⟨a, b, xs, h1, e.sq h2, e.sq h3, cndsAt_toI e cs xs h4⟩
  | .case ws ts el, v, ⟨a, b, qs, xs, ys, y, h1, h2, h3, h4, h5, h6, h7⟩ =>
    ⟨a, b, qs, xs, ys, y, h1, e.sq h2, e.sq h3, zip3_toI e h4, cndsAt_toI e ws xs h5, cndsAt_toI e ts ys h6, cndAt_toI e el y h7⟩
theorem cndsAt_toI (e : ExI H H') : ∀ (cs : List Cnd) (xs : List V), CndsAt K H xs cs → CndsAt K H' xs cs
  | [], xs, h => h
  | c :: cs, xs, ⟨x, r, h1, h2, h3⟩ => ⟨x, r, h1, cndAt_toI e c x h2, cndsAt_toI e cs r h3⟩
end
theorem CndAt.to {v : V} {c : Cnd} (h : CndAt K H v c) (e : Ex H H') : CndAt K H' v c := cndAt_toI (ExI.of e) c v h
theorem CndsAt.to {vs : List V} {cs : List Cnd} (h : CndsAt K H vs cs) (e : Ex H H') : CndsAt K H' vs cs := cndsAt_toI (ExI.of e) cs vs h
theorem zip3_dp : ∀ {qs : List Addr} {xs ys : List V} {as bs : List PyData}, Zip3 K H qs xs ys → DpAll K H xs as → DpAll K H ys bs → DpAll K H (qs.map V.ref) (pairL as bs)
  | [], [], [], _, _, _, .nil, .nil => .nil
  | q :: qs, x :: xs, y :: ys, _, _, h, .cons h1 h2, .cons h3 h4 => .cons (.tup h.1 (.cons h1 (.cons h3 .nil))) (zip3_dp h.2 h2 h4)
  | [], _ :: _, _, _, _, h, _, _ => h.elim
  | [], [], _ :: _, _, _, h, _, _ => h.elim
  | _ :: _, [], _, _, _, h, _, _ => h.elim
  | _ :: _, _ :: _, [], _, _, h, _, _ => h.elim
theorem leafAt_dp {v : V} {l : Leaf} (h : LeafAt K H v l) : Dp K H v l.data := by
  cases l with
  | asks n ss sg k =>
    obtain ⟨a, b, ws, rfl, h2, h3, h4⟩ := h
    exact .tup h2 (.cons (.str _) (.cons (.str _) (.cons (.tup h3 (stps_dp h4)) (.cons (.str _) (.cons (.int _) .nil)))))
  | _ => obtain ⟨a, rfl, h2⟩ := h; exact .tup h2 (.cons (.str _) (.cons (.str _) .nil))
mutual
theorem cndAt_dp : ∀ (c : Cnd) (v : V), CndAt K H v c → Dp K H v c.data
  | .leaf l, v, h => leafAt_dp h
  | .not c, v, ⟨a, x, h1, h2, h3⟩ => by subst h1; exact .tup h2 (.cons (.str _) (.cons (cndAt_dp c x h3) .nil))
  | .node k cs, v, ⟨a, b, xs, h1, h2, h3, h4⟩ => by subst h1; exact .tup h2 (.cons (.str _) (.cons (.tup h3 (cndsAt_dp cs xs h4)) .nil))
  | .case ws ts el, v, ⟨a, b, qs, xs, ys, y, h1, h2, h3, h4, h5, h6, h7⟩ => by
    subst h1
    exact .tup h2 (.cons (.str _) (.cons (.tup h3 (zip3_dp h4 (cndsAt_dp ws xs h5) (cndsAt_dp ts ys h6))) (.cons (cndAt_dp el y h7) .nil)))
theorem cndsAt_dp : ∀ (cs : List Cnd) (xs : List V), CndsAt K H xs cs → DpAll K H xs (Cnd.dataL cs)
  | [], xs, h => by subst h; exact .nil
  | c :: cs, xs, ⟨x, r, h1, h2, h3⟩ => by subst h1; exact .cons (cndAt_dp c x h2) (cndsAt_dp cs r h3)
end
theorem CndAt.dp {v : V} {c : Cnd} (h : CndAt K H v c) : Dp K H v c.data := cndAt_dp c v h
theorem cnds_len : ∀ {cs : List Cnd} {xs : List V}, CndsAt K H xs cs → xs.length = cs.length
  | [], xs, h => by subst h; rfl
  | c :: cs, xs, ⟨x, r, h1, h2, h3⟩ => by subst h1; simp [cnds_len h3]
theorem cnds_get : ∀ {cs : List Cnd} {xs : List V} {i : Nat} {x : V}, CndsAt K H xs cs → xs[i]? = some x → ∃ c, cs[i]? = some c ∧ CndAt K H x c
  | [], xs, i, x, h, e => by subst h; simp at e
  | c :: cs, xs, i, x, ⟨y, r, h1, h2, h3⟩, e => by
    subst h1
    cases i with
    | zero => simp at e; subst e; exact ⟨c, by simp, h2⟩
    | succ i =>
      obtain ⟨d, q1, q2⟩ := cnds_get (i := i) h3 (by simpa using e)
      exact ⟨d, by simpa using q1, q2⟩
theorem cnds_app : ∀ {cs ds : List Cnd} {xs ys : List V}, CndsAt K H xs cs → CndsAt K H ys ds → CndsAt K H (xs ++ ys) (cs ++ ds)
  | [], ds, xs, ys, h, h' => by subst h; exact h'
  | c :: cs, ds, xs, ys, ⟨y, r, h1, h2, h3⟩, h' => by subst h1; exact ⟨y, r ++ ys, rfl, h2, cnds_app h3 h'⟩
theorem cnds_one {x : V} {c : Cnd} (h : CndAt K H x c) : CndsAt K H [x] [c] := ⟨x, [], rfl, h, rfl⟩
theorem zip3_len : ∀ {qs : List Addr} {xs ys : List V}, Zip3 K H qs xs ys → qs.length = xs.length ∧ xs.length = ys.length
  | [], [], [], _ => ⟨rfl, rfl⟩
  | _ :: qs, _ :: xs, _ :: ys, h => by obtain ⟨a, b⟩ := zip3_len h.2; simp [a, b]
  | [], _ :: _, _, h => h.elim
  | [], [], _ :: _, h => h.elim
  | _ :: _, [], _, h => h.elim
  | _ :: _, _ :: _, [], h => h.elim
theorem zip3_get : ∀ {qs : List Addr} {xs ys : List V} {i : Nat} {q : V}, Zip3 K H qs xs ys → (qs.map V.ref)[i]? = some q →
    ∃ p x y, q = .ref p ∧ xs[i]? = some x ∧ ys[i]? = some y ∧ SqT K H p [x, y]
  | [], [], [], i, q, h, e => by simp at e
  | q' :: qs, x' :: xs, y' :: ys, i, q, h, e => by
    cases i with
    | zero => simp at e; subst e; exact ⟨q', x', y', rfl, by simp, by simp, h.1⟩
    | succ i =>
      obtain ⟨p, x, y, e1, e2, e3, e4⟩ := zip3_get (i := i) h.2 (by simpa using e)
      exact ⟨p, x, y, e1, by simpa using e2, by simpa using e3, e4⟩
  | [], _ :: _, _, _, _, h, _ => h.elim
  | [], [], _ :: _, _, _, h, _ => h.elim
  | _ :: _, [], _, _, _, h, _ => h.elim
  | _ :: _, _ :: _, [], _, _, h, _ => h.elim
end
end Gx

set_option Elab.async false
set_option linter.all false
set_option maxRecDepth 100000
set_option maxHeartbeats 4000000
namespace Gx
open PySem PySem.Spec PyProof.Rows L2 Evl
/-! Conditions can be laid, shown, and are not too long to be shown. -/
/-- what data must keep so that it can be compared and shown -/
structure Fit (d : PyData) (n m : Nat) : Prop where
  lay : PyData.canLay0 d = true
  deep : d.depth ≤ n
  show_ : d.showable = true
  wide : wide d ≤ m
structure FitL (ds : List PyData) (n m : Nat) : Prop where
  lay : PyData.canLayAll0 ds = true
  deep : PyData.depthAll ds ≤ n
  show_ : PyData.showableAll ds = true
  wide : wide.wideAll ds ≤ m
theorem Fit.mono {d : PyData} {n m n' m' : Nat} (h : Fit d n m) (a : n ≤ n') (b : m ≤ m') : Fit d n' m' := ⟨h.lay, Nat.le_trans h.deep a, h.show_, Nat.le_trans h.wide b⟩
theorem FitL.mono {d : List PyData} {n m n' m' : Nat} (h : FitL d n m) (a : n ≤ n') (b : m ≤ m') : FitL d n' m' := ⟨h.lay, Nat.le_trans h.deep a, h.show_, Nat.le_trans h.wide b⟩
theorem fit_nil (n : Nat) : FitL [] n 0 := ⟨rfl, Nat.zero_le _, rfl, Nat.le_refl _⟩
theorem fit_cons {d : PyData} {ds : List PyData} {n m k : Nat} (h : Fit d n m) (t : FitL ds n k) : FitL (d :: ds) n (m + 2 + k) := by
  refine ⟨?_, ?_, ?_, ?_⟩
  · simp [PyData.canLayAll0, h.lay, t.lay]
  · simp only [PyData.depthAll]; have := h.deep; have := t.deep; omega
  · simp [PyData.showableAll, h.show_, t.show_]
  · simp only [wide.wideAll]; have := h.wide; have := t.wide; omega
theorem fit_tup {ds : List PyData} {n m : Nat} (t : FitL ds n m) : Fit (.tuple ds) (n + 1) (m + 3) := by
  refine ⟨?_, ?_, ?_, ?_⟩
  · simp [PyData.canLay0, t.lay]
  · simp only [PyData.depth]; have := t.deep; omega
  · simp [PyData.showable, t.show_]
  · simp only [Gx.wide]; have := t.wide; omega
theorem fit_lst {ds : List PyData} {n m : Nat} (t : FitL ds n m) : Fit (.list ds) (n + 1) (m + 2) := by
  refine ⟨?_, ?_, ?_, ?_⟩
  · simp [PyData.canLay0, t.lay]
  · simp only [PyData.depth]; have := t.deep; omega
  · simp [PyData.showable, t.show_]
  · simp only [Gx.wide]; have := t.wide; omega
theorem fit_int {i : Int} (h : Near i) : Fit (.int i) 0 1921 := by
  refine ⟨by simp [PyData.canLay0], by simp [PyData.depth], ?_, by simp [Gx.wide]⟩
  simp only [PyData.showable]
  have b := near_abs h
  refine decide_eq_true ?_
  by_cases h0 : i.natAbs = 0
  · rw [h0]; decide
  · have := (Nat.log2_lt h0 (k := 40)).mpr (by rw [show (2 : Nat) ^ 40 = 1099511627776 by decide]; exact b)
    omega
structure Nm (n : Str) : Prop where
  ok : PyData.strOk n = true
  short : (reprText n).length ≤ 100
theorem fit_str {x : Str} (h : Nm x) : Fit (.str x) 0 100 := ⟨by simp [PyData.canLay0, h.ok], by simp [PyData.depth], by simp [PyData.showable], by simp only [Gx.wide]; exact h.short⟩
theorem nm_plus : Nm "plus" := ⟨by decide +kernel, by decide +kernel⟩
theorem nm_times : Nm "times" := ⟨by decide +kernel, by decide +kernel⟩
theorem nm_into : Nm "into" := ⟨by decide +kernel, by decide +kernel⟩
theorem nm_over : Nm "over" := ⟨by decide +kernel, by decide +kernel⟩
theorem nm_found : Nm "found" := ⟨by decide +kernel, by decide +kernel⟩
theorem nm_always : Nm "always" := ⟨by decide +kernel, by decide +kernel⟩
theorem nm_empty : Nm "empty" := ⟨by decide +kernel, by decide +kernel⟩
theorem nm_number : Nm "number" := ⟨by decide +kernel, by decide +kernel⟩
theorem nm_asks : Nm "asks" := ⟨by decide +kernel, by decide +kernel⟩
theorem nm_not : Nm "not" := ⟨by decide +kernel, by decide +kernel⟩
theorem nm_case : Nm "case" := ⟨by decide +kernel, by decide +kernel⟩
theorem nm_sign {x : Str} (h : x ∈ sgns) : Nm x := by
  have : ∀ x ∈ sgns, PyData.strOk x = true ∧ (reprText x).length ≤ 100 := by decide +kernel
  exact ⟨(this x h).1, (this x h).2⟩
theorem nm_word {x : Str} (h : x ∈ words) : Nm x := by
  have : ∀ x ∈ words, PyData.strOk x = true ∧ (reprText x).length ≤ 100 := by decide +kernel
  exact ⟨(this x h).1, (this x h).2⟩
theorem nm_kind {x : Str} (h : x ∈ kinds) : Nm x := by
  have : ∀ x ∈ kinds, PyData.strOk x = true ∧ (reprText x).length ≤ 100 := by decide +kernel
  exact ⟨(this x h).1, (this x h).2⟩
theorem fit_pair {x y : PyData} {n m k : Nat} (h : Fit x n m) (h' : Fit y n k) : Fit (.tuple [x, y]) (n + 1) (m + k + 7) :=
  (fit_tup (fit_cons h (fit_cons h' (fit_nil n)))).mono (Nat.le_refl _) (by omega)
theorem fit_pairs : ∀ {ps : List (Int × Int)}, (∀ p ∈ ps, Near p.1 ∧ Near p.2) → FitL (ps.map pairD) 1 (3860 * ps.length)
  | [], _ => fit_nil 1
  | p :: ps, h => by
    have h1 := h p List.mem_cons_self
    have t := fit_pairs (ps := ps) fun q hq => h q (List.mem_cons_of_mem _ hq)
    rw [List.map_cons, List.length_cons]
    exact (fit_cons (fit_pair (fit_int h1.1) (fit_int h1.2)) t).mono (Nat.le_refl _) (by omega)
theorem fit_step {s : Stp} (h : s.ok) : Fit s.data 3 31100 := by
  cases s with
  | found ps =>
    obtain ⟨_, h2, h3⟩ := h
    have t := fit_tup (fit_pairs h2)
    exact (fit_pair (fit_str nm_found |>.mono (Nat.zero_le 2) (Nat.le_refl _)) t).mono (Nat.le_refl _) (by omega)
  | plus k => exact (fit_pair (fit_str nm_plus) (fit_int h)).mono (by omega) (by omega)
  | times k => exact (fit_pair (fit_str nm_times) (fit_int h.1)).mono (by omega) (by omega)
  | into k => exact (fit_pair (fit_str nm_into) (fit_int ⟨by have := h.1; omega, h.2⟩)).mono (by omega) (by omega)
  | over k => exact (fit_pair (fit_str nm_over) (fit_int h)).mono (by omega) (by omega)
theorem fit_steps : ∀ {ss : List Stp}, (∀ s ∈ ss, Stp.ok s) → FitL (ss.map Stp.data) 3 (31102 * ss.length)
  | [], _ => fit_nil 3
  | s :: ss, h => by
    have t := fit_steps (ss := ss) fun q hq => h q (List.mem_cons_of_mem _ hq)
    rw [List.map_cons, List.length_cons]
    exact (fit_cons (fit_step (h s List.mem_cons_self)) t).mono (Nat.le_refl _) (by omega)
theorem fit_leaf {ns : List Str} (hn : ∀ n ∈ ns, Nm n) {l : Leaf} (h : l.ok ns) : Fit l.data 6 200000 := by
  cases l with
  | always w => exact (fit_pair (fit_str nm_always) (fit_str (nm_word h))).mono (by omega) (by omega)
  | empty n => exact (fit_pair (fit_str nm_empty) (fit_str (hn n h))).mono (by omega) (by omega)
  | number n => exact (fit_pair (fit_str nm_number) (fit_str (hn n h))).mono (by omega) (by omega)
  | asks n ss sg k =>
    obtain ⟨h1, h2, h3, h4, h5⟩ := h
    have z : 0 ≤ 4 := Nat.zero_le 4
    have t := fit_tup (fit_steps h2)
    exact (fit_tup (fit_cons ((fit_str nm_asks).mono z (Nat.le_refl _)) (fit_cons ((fit_str (hn n h1)).mono z (Nat.le_refl _)) (fit_cons t
      (fit_cons ((fit_str (nm_sign h4)).mono z (Nat.le_refl _)) (fit_cons ((fit_int h5).mono z (Nat.le_refl _)) (fit_nil 4))))))).mono (by omega) (by omega)
theorem fit_pairL : ∀ {as bs : List PyData} {n m k : Nat}, FitL as n m → FitL bs n k → as.length = bs.length → FitL (pairL as bs) (n + 1) (m + k + 20 * as.length)
  | [], [], n, m, k, _, _, _ => (fit_nil _).mono (Nat.le_refl _) (Nat.zero_le _)
  | a :: as, b :: bs, n, m, k, h, h', hl => by
    have s1 := h.lay
    have s2 := h'.lay
    have d1 := h.deep
    have d2 := h'.deep
    have w1 := h.wide
    have w2 := h'.wide
    have v1 := h.show_
    have v2 := h'.show_
    simp only [PyData.canLayAll0, Bool.and_eq_true] at s1 s2
    simp only [PyData.depthAll, Nat.max_le] at d1 d2
    simp only [wide.wideAll] at w1 w2
    simp only [PyData.showableAll, Bool.and_eq_true] at v1 v2
    have t := fit_pairL (as := as) (bs := bs) ⟨s1.2, d1.2, v1.2, Nat.le_refl _⟩ ⟨s2.2, d2.2, v2.2, Nat.le_refl _⟩ (by simpa using hl)
    have p := fit_pair (⟨s1.1, d1.1, v1.1, Nat.le_refl _⟩ : Fit a n _) (⟨s2.1, d2.1, v2.1, Nat.le_refl _⟩ : Fit b n _)
    rw [pairL, List.length_cons]
    exact (fit_cons p t).mono (Nat.le_refl _) (by omega)
  | [], _ :: _, _, _, _, _, _, hl => by simp at hl
  | _ :: _, [], _, _, _, _, _, hl => by simp at hl
theorem weightL_len : ∀ cs : List Cnd, 20 * cs.length ≤ Cnd.weightL cs
  | [] => by simp [Cnd.weightL]
  | c :: cs => by have := weightL_len cs; rw [Cnd.weightL, List.length_cons]; omega
mutual
theorem fit_cnd {ns : List Str} (hn : ∀ n ∈ ns, Nm n) : ∀ (c : Cnd), c.ok ns → Fit c.data (3 * c.depth + 6) (c.weight)
  | .leaf l, h => by rw [Cnd.data, Cnd.weight]; exact (fit_leaf hn h).mono (by omega) (Nat.le_refl _)
  | .not c, h => by
    rw [Cnd.data, Cnd.weight, Cnd.depth]
    have t := fit_cnd hn c (by rw [Cnd.ok] at h; exact h)
    have e := fit_tup (fit_cons ((fit_str nm_not).mono (Nat.zero_le _) (Nat.le_refl _)) (fit_cons t (fit_nil _)))
    have e1 : wide (.str "not") ≤ 6 := by decide +kernel
    refine ⟨e.lay, Nat.le_trans e.deep (by omega), e.show_, ?_⟩
    simp only [Gx.wide, wide.wideAll] at e1 ⊢
    have := t.wide
    omega
  | .node k cs, h => by
    rw [Cnd.data, Cnd.weight, Cnd.depth]
    rw [Cnd.ok] at h
    have t := fit_cnds hn cs h.2
    have e := fit_tup (fit_cons ((fit_str (nm_kind h.1)).mono (Nat.zero_le _) (Nat.le_refl _)) (fit_cons (fit_tup t) (fit_nil _)))
    have e1 : wide (.str k) ≤ 7 := by
      have : ∀ k ∈ kinds, wide (.str k) ≤ 7 := by decide +kernel
      exact this k h.1
    refine ⟨e.lay, Nat.le_trans e.deep (by omega), e.show_, ?_⟩
    simp only [Gx.wide, wide.wideAll] at e1 ⊢
    have := t.wide
    omega
  | .case ws ts el, h => by
    rw [Cnd.data, Cnd.weight, Cnd.depth]
    rw [Cnd.ok] at h
    obtain ⟨h1, h2, h3, h4⟩ := h
    have t1 := fit_cnds hn ws h2
    have t2 := fit_cnds hn ts h3
    have t3 := fit_cnd hn el h4
    generalize hD : max (max (Cnd.depthL ws) (Cnd.depthL ts)) el.depth = D
    have q1 : Cnd.depthL ws ≤ D := by omega
    have q2 : Cnd.depthL ts ≤ D := by omega
    have q3 : el.depth ≤ D := by omega
    have l1 : (Cnd.dataL ws).length = ws.length := by rw [Cnd.dataL_map, List.length_map]
    have l2 : (Cnd.dataL ts).length = ts.length := by rw [Cnd.dataL_map, List.length_map]
    have p := fit_pairL (t1.mono (n' := 3 * D + 6) (by omega) (Nat.le_refl _)) (t2.mono (n' := 3 * D + 6) (by omega) (Nat.le_refl _)) (by rw [l1, l2, h1])
    have e := fit_tup (fit_cons ((fit_str nm_case).mono (Nat.zero_le _) (Nat.le_refl _)) (fit_cons (fit_tup p) (fit_cons (t3.mono (n' := 3 * D + 6 + 1 + 1) (by omega) (Nat.le_refl _)) (fit_nil _))))
    have e1 : wide (.str "case") ≤ 6 := by decide +kernel
    refine ⟨e.lay, Nat.le_trans e.deep (by omega), e.show_, ?_⟩
    have p1 := p.wide
    rw [l1] at p1
    have g3 := t3.wide
    have g4 := weightL_len ws
    have g5 := weightL_len ts
    simp only [Gx.wide, wide.wideAll] at e1 ⊢
    omega
theorem fit_cnds {ns : List Str} (hn : ∀ n ∈ ns, Nm n) : ∀ (cs : List Cnd), Cnd.okL ns cs → FitL (Cnd.dataL cs) (3 * Cnd.depthL cs + 6) (Cnd.weightL cs - 18 * cs.length)
  | [], _ => by rw [Cnd.dataL, Cnd.weightL]; exact (fit_nil _)
  | c :: cs, h => by
    rw [Cnd.okL] at h
    rw [Cnd.dataL, Cnd.depthL, Cnd.weightL]
    have t1 := fit_cnd hn c h.1
    have t2 := fit_cnds hn cs h.2
    exact (fit_cons (t1.mono (n' := 3 * max c.depth (Cnd.depthL cs) + 6) (by omega) (Nat.le_refl _)) (t2.mono (by omega) (Nat.le_refl _))).mono (Nat.le_refl _) (by have := weightL_len cs; rw [List.length_cons]; omega)
end
end Gx

set_option Elab.async false
set_option linter.all false
set_option maxRecDepth 100000
set_option maxHeartbeats 4000000
namespace Gx
open PySem PySem.Spec PyProof.Rows L2 Evl
/-! A list by pairs, as cases take it. -/
def ev {α : Type} : Nat → List α → List α
  | m + 1, a :: _ :: r => a :: ev m r
  | _, _ => []
def od {α : Type} : Nat → List α → List α
  | m + 1, _ :: b :: r => b :: od m r
  | _, _ => []
section
variable {K : PySem.W.Frag} {H : Hp}
theorem zip_ev : ∀ {m : Nat} {qs : List Addr} {xs : List V}, qs.length = m → 2 * m ≤ xs.length →
    (∀ i, i < m → ∃ q x y, qs[i]? = some q ∧ xs[2 * i]? = some x ∧ xs[2 * i + 1]? = some y ∧ SqT K H q [x, y]) → Zip3 K H qs (ev m xs) (od m xs)
  | 0, [], xs, _, _, _ => trivial
  | 0, _ :: _, _, h, _, _ => by simp at h
  | m + 1, [], _, h, _, _ => by simp at h
  | m + 1, q :: qs, [], _, h, _ => by simp at h
  | m + 1, q :: qs, [_], _, h, _ => by simp at h; omega
  | m + 1, q :: qs, a :: b :: r, h, h', f => by
    refine ⟨?_, zip_ev (m := m) (by simpa using h) (by simp at h'; omega) fun i hi => ?_⟩
    · obtain ⟨q', x, y, e1, e2, e3, e4⟩ := f 0 (Nat.zero_lt_succ _)
      simp at e1 e2 e3
      subst e1 e2 e3
      exact e4
    · obtain ⟨q', x, y, e1, e2, e3, e4⟩ := f (i + 1) (Nat.succ_lt_succ hi)
      refine ⟨q', x, y, by simpa using e1, ?_, ?_, e4⟩
      · rw [show 2 * (i + 1) = 2 * i + 1 + 1 by omega] at e2; simpa using e2
      · rw [show 2 * (i + 1) + 1 = 2 * i + 1 + 1 + 1 by omega] at e3; simpa using e3
theorem cnds_ev : ∀ {m : Nat} {xs : List V} {cs : List Cnd}, CndsAt K H xs cs → 2 * m ≤ cs.length → CndsAt K H (ev m xs) (ev m cs) ∧ CndsAt K H (od m xs) (od m cs)
  | 0, xs, cs, _, _ => by
    have e1 : ∀ {α : Type} (l : List α), ev 0 l = [] := fun l => by cases l <;> rfl
    have e2 : ∀ {α : Type} (l : List α), od 0 l = [] := fun l => by cases l <;> rfl
    rw [e1, e1, e2, e2]
    exact ⟨rfl, rfl⟩
  | m + 1, xs, [], _, h => by simp at h
  | m + 1, xs, [_], _, h => by simp at h; omega
  | m + 1, xs, c :: d :: cs, ⟨x, _, e1, h1, y, r, e2, h2, h3⟩, h => by
    subst e1 e2
    obtain ⟨q1, q2⟩ := cnds_ev (m := m) h3 (by simp at h; omega)
    exact ⟨⟨x, _, rfl, h1, q1⟩, ⟨y, _, rfl, h2, q2⟩⟩
end
theorem len_ev : ∀ {α : Type} {m : Nat} {l : List α}, 2 * m ≤ l.length → (ev m l).length = m ∧ (od m l).length = m
  | _, 0, l, _ => by cases l <;> exact ⟨rfl, rfl⟩
  | _, m + 1, [], h => by simp at h
  | _, m + 1, [_], h => by simp at h; omega
  | _, m + 1, a :: b :: r, h => by
    obtain ⟨q1, q2⟩ := len_ev (m := m) (l := r) (by simp at h; omega)
    simp [ev, od, q1, q2]
theorem mem_ev : ∀ {α : Type} {m : Nat} {l : List α} {x : α}, x ∈ ev m l ∨ x ∈ od m l → x ∈ l
  | _, 0, l, x, h => by cases l <;> simp [ev, od] at h
  | _, m + 1, [], x, h => by simp [ev, od] at h
  | _, m + 1, [_], x, h => by simp [ev, od] at h
  | _, m + 1, a :: b :: r, x, h => by
    simp only [ev, od, List.mem_cons] at h ⊢
    rcases h with (h | h) | (h | h)
    · exact .inl h
    · exact .inr (.inr (mem_ev (m := m) (.inl h)))
    · exact .inr (.inl h)
    · exact .inr (.inr (mem_ev (m := m) (.inr h)))
theorem okL_ev {ns : List Str} {cs : List Cnd} {m : Nat} (h : Cnd.okL ns cs) : Cnd.okL ns (ev m cs) ∧ Cnd.okL ns (od m cs) :=
  ⟨Cnd.okL_iff.mpr fun c hc => Cnd.okL_iff.mp h c (mem_ev (.inl hc)), Cnd.okL_iff.mpr fun c hc => Cnd.okL_iff.mp h c (mem_ev (.inr hc))⟩
theorem depthL_ev {n : Nat} {cs : List Cnd} {m : Nat} (h : Cnd.depthL cs ≤ n) : Cnd.depthL (ev m cs) ≤ n ∧ Cnd.depthL (od m cs) ≤ n :=
  ⟨Cnd.depthL_le.mpr fun c hc => Cnd.depthL_le.mp h c (mem_ev (.inl hc)), Cnd.depthL_le.mpr fun c hc => Cnd.depthL_le.mp h c (mem_ev (.inr hc))⟩
theorem weight_mem : ∀ {cs : List Cnd} {c : Cnd}, c ∈ cs → c.weight + 20 ≤ Cnd.weightL cs
  | a :: cs, c, h => by
    rw [Cnd.weightL]
    rcases List.mem_cons.mp h with rfl | h
    · omega
    · have := weight_mem h; omega
theorem weight_ev : ∀ {m : Nat} {cs : List Cnd} {c : Cnd} {i : Nat}, cs[i]? = some c → 2 * m ≤ i → Cnd.weightL (ev m cs) + Cnd.weightL (od m cs) + c.weight + 20 ≤ Cnd.weightL cs
  | 0, cs, c, i, h, _ => by
    have e1 : ∀ {α : Type} (l : List α), ev 0 l = [] := fun l => by cases l <;> rfl
    have e2 : ∀ {α : Type} (l : List α), od 0 l = [] := fun l => by cases l <;> rfl
    rw [e1, e2]
    have := weight_mem (List.mem_of_getElem? h)
    simp only [Cnd.weightL]
    omega
  | m + 1, [], c, i, h, _ => by simp at h
  | m + 1, [_], c, i, h, hi => by
    have := (List.getElem?_eq_some_iff.mp h).1
    simp at this
    omega
  | m + 1, a :: b :: r, c, i, h, hi => by
    obtain ⟨i, rfl⟩ : ∃ i', i = i' + 2 := ⟨i - 2, by omega⟩
    have := weight_ev (m := m) (cs := r) (c := c) (i := i) (by simpa using h) (by omega)
    simp only [ev, od, Cnd.weightL]
    omega
theorem atI_last {α : Type} {xs : List α} {n : Nat} (h : xs.length = n + 1) : atI xs (-1) = xs[n]? := by
  unfold atI ixN
  rw [if_neg (by decide), if_pos (by omega)]
  show xs[(-1 + (xs.length : Int)).toNat]? = _
  rw [show (-1 + (xs.length : Int)).toNat = n by omega]
end Gx

set_option Elab.async false
set_option linter.all false
set_option maxRecDepth 100000
set_option maxHeartbeats 4000000
namespace K26
open PySem PySem.Spec PyProof.Rows L2 Evl Gx
def topS (i : Nat) : Stmt := PySem.Challenge.pw_refusedahead_k26_contents_kept.main.body.getD i (.Pass ⟨0, 0, 0, 0⟩)
abbrev s_l_bag : Stmt := topS 26
theorem sc_l_bag : FnScope ["_law_script", "_law_cell"] ["_law_script"] (defScope s_l_bag) := ⟨rfl, rfl, rfl, by decide +kernel, rfl, by decide +kernel, by decide +kernel⟩
abbrev s_l_take : Stmt := topS 27
theorem sc_l_take : FnScope ["_law_bag_here", "_law_many", "_law_cell", "_law_mixed", "_law_drawn", "_law_begin", "_law_second"] ["_law_bag_here", "_law_many"] (defScope s_l_take) := ⟨rfl, rfl, rfl, by decide +kernel, rfl, by decide +kernel, by decide +kernel⟩
section
variable {P : Program} {w : World} {K : PySem.W.Frag} {mg : Str → Option Value} {base : Heap}
theorem ok_bagI {f : Addr} {fd : FuncData} (D : Def K mg "_law_bag" s_l_bag f fd ["_law_script"]) (bi : Bi mg) :
    FnOk P w K mg base CX0 1 f fd ["_law_script"] (spBagI K) := by
  refine D.fn.ok sc_l_bag (fun vs H Q E h => ?_) (fun cdv A outer s H vs Q E hr h => ?_)
  · obtain ⟨a, ns, rfl, _⟩ := h
    rfl
  · obtain ⟨a, ns, rfl, hs, hl, k⟩ := h
    refine ⟨_, (pss_one (ps_ret (pe_lst (pa_cons pe_int (pa_cons pe_int (pa_cons pe_int (pa_cons (pe_lc (own := [("_law_cell", 1)]) rfl sc_l_bag.nd (pi_list (pe_slice sl_list (pv 0) po_none (po_some pe_int))) (blkOk_by (N := ["_law_script", "_law_cell"]) (sc := defScope s_l_bag) (by decide +kernel)) (fun _ _ _ _ _ => (pg_name (i := 1) sc_l_bag.nd rfl (Or.inl rfl))) (fun _ _ _ _ _ => pts_nil) (fun _ _ _ _ _ => (pe_callB call_abs (by rfl) bi.abs bt_abs (pa_cons (pv 1) pa_nil)))) pa_nil))))))), ?_⟩
    refine ⟨_, rfl, 63, rfl, a, ns.map V.int, rfl, hs, fun c hcn => ?_⟩
    have cut : cutV (ns.map V.int) none (some 63) = (ns.take 63).map V.int := by
      unfold cutV
      rw [show HT.sIx (ns.map V.int).length 0 none = 0 from rfl, List.drop_zero, Nat.sub_zero]
      have e : HT.sIx (ns.map V.int).length (ns.map V.int).length (some 63) = min 63 (ns.map V.int).length := rfl
      rw [e, List.map_take]
      by_cases q : 63 ≤ (ns.map V.int).length
      · rw [Nat.min_eq_left q]
      · rw [Nat.min_eq_right (by omega), List.take_length, List.take_of_length_le (by omega)]
    rw [cut]
    refine ⟨c, rfl, ⟨_, SqL.of upd_same⟩, fun d hd => ?_⟩
    refine lc_list (xs := (ns.take 63).map V.int) (fun i H' => H' c = some (.lst ((ns.take 63).map V.int)) ∧ Ex H H' ∧ H d = none ∧ d ≠ c ∧
      ∃ cs : List Int, H' d = some (.lst (cs.map V.int)) ∧ cs.length = i ∧ ∀ x ∈ cs, 0 ≤ x) ?_ (fun i H' _ p => SqL.of p.1) ?_ ?_
    · have ncd : d ≠ c := fun e => by subst e; rw [upd_same] at hd; cases hd
      have hd0 : H d = none := by rw [upd_ne ncd] at hd; exact hd
      refine ⟨by rw [upd_ne ncd.symm]; exact upd_same, ?_, hd0, ncd, [], upd_same, rfl, by simp⟩
      exact (Ex.new hcn).trans (Ex.new hd)
    · rintro i x H' hi ⟨p1, p2, p3, p4, cs, p5, p6, p7⟩
      obtain ⟨z, rfl⟩ : ∃ z, x = V.int z := by
        rw [List.getElem?_map] at hi
        obtain ⟨z, _, e⟩ := Option.map_eq_some_iff.mp hi
        exact ⟨z, e.symm⟩
      have hil : i < 63 := by
        have := (List.getElem?_eq_some_iff.mp hi).1
        rw [List.length_map, List.length_take] at this
        omega
      refine ⟨rfl, _, rfl, z, rfl, cs.map V.int, p5, by rw [List.length_map]; exact small1000 (by omega), ?_⟩
      refine ⟨by rw [upd_ne p4.symm]; exact p1, p2.mut p3, p3, p4, cs ++ [if z < 0 then -z else z], ?_, by simp [p6], ?_⟩
      · rw [upd_same, List.map_append]; rfl
      · intro y hy
        rcases List.mem_append.mp hy with q | q
        · exact p7 y q
        · rw [List.mem_singleton] at q; subst q; split <;> omega
    · rintro H' ⟨p1, p2, p3, p4, cs, p5, p6, p7⟩
      refine ⟨by show 4 ≤ sizeLine; decide, fun p hp => ?_⟩
      have ndp : d ≠ p := fun e => by subst e; rw [p5] at hp; cases hp
      exact k p d cs _ (ex_upd p2 hp) (fresh_back p2 hp) upd_same (by rw [upd_ne ndp]; exact p5) p7
theorem ok_takeI {f : Addr} {fd : FuncData} (D : Def K mg "_law_take" s_l_take f fd ["_law_bag_here", "_law_many"]) (bi : Bi mg) :
    FnOk P w K mg base CX0 1 f fd ["_law_bag_here", "_law_many"] spTakeI := by
  refine D.fn.ok sc_l_take (fun vs H Q E h => ?_) (fun cdv A outer s H vs Q E hr h => ?_)
  · obtain ⟨b, l, many, p, q, r, cs, rfl, _⟩ := h
    rfl
  · obtain ⟨b, l, many, p, q, r, cs, rfl, hb, hl, nbl, hc, z, m0, m1, k⟩ := h
    refine ⟨_, (Evl.pss_cut (ps_if (pt_cmpR op_eq (pe_ix ix_list (pv 0) pe_int (fun _ _ => rfl)) pe_int (nomark _))
    (pss_cons (ps_set (i := 2) sc_l_take.nd rfl (Or.inl rfl) pe_int)
    (Evl.pss_cut (ps_if (pt_cmpR op_lt (pe_ix ix_list (pv 0) pe_int (fun _ _ => rfl)) (pe_callB call_len_seq (by rfl) bi.len bt_len (pa_cons (pe_ix ix_list (pv 0) pe_int (fun _ _ => rfl)) pa_nil)) (nomark _))
      (pss_one (ps_set (i := 2) sc_l_take.nd rfl (Or.inl rfl) (pe_ix ix_list (pe_ix ix_list (pv 0) pe_int (fun _ _ => rfl)) (pe_ix ix_list (pv 0) pe_int (fun _ _ => rfl)) (fun _ _ => rfl))))
      pss_nil)
    (pss_cons (ps_augS (pv 0) pe_int get_list pe_int ip_add set_list)
    (Evl.pss_cut (ps_if (pt_cmpR op_ge (pv 2) (pe_op op_pow pe_int pe_int) (nomark _))
      (pss_one (ps_asg (pv 2) (pg_sub (pv 0) pe_int set_list)))
      pss_nil)
    (pss_cons (ps_set (i := 3) sc_l_take.nd rfl (Or.inl rfl) (pe_op op_add (pe_op op_add (pe_op op_mul (pe_ix ix_list (pv 0) pe_int (fun _ _ => rfl)) pe_int) (pe_op op_mod (pe_callTy call_int1 (by rfl) bi.int bt_int (pa_cons (pv 2) pa_nil)) pe_int)) (pe_op op_mul pe_int (pe_ix ix_list (pv 0) pe_int (fun _ _ => rfl)))))
    (pss_one (ps_asg (pe_op op_mod (pe_callTy call_int1 (by rfl) bi.int bt_int (pa_cons (pv 3) pa_nil)) pe_int) (pg_sub (pv 0) pe_int set_list))))))))
    pss_nil)
  (pss_cons (ps_if (pt_cmpR op_gt (pe_ix ix_list (pv 0) pe_int (fun _ _ => rfl)) pe_int (nomark _))
    (pss_cons (ps_set (i := 4) sc_l_take.nd rfl (Or.inl rfl) (pe_op op_mod (pe_callTy call_int1 (by rfl) bi.int bt_int (pa_cons (pe_ix ix_list (pv 0) pe_int (fun _ _ => rfl)) pa_nil)) (pv 1)))
    (pss_cons (ps_asg (pe_op op_fdiv (pe_ix ix_list (pv 0) pe_int (fun _ _ => rfl)) (pv 1)) (pg_sub (pv 0) pe_int set_list))
    (pss_one (ps_ret (pv 4)))))
    pss_nil)
  (pss_cons (ps_set (i := 5) sc_l_take.nd rfl (Or.inl rfl) (pe_op op_mod (pe_callTy call_int1 (by rfl) bi.int bt_int (pa_cons (pe_op op_mul (pe_op op_add (pe_ix ix_list (pv 0) pe_int (fun _ _ => rfl)) pe_int) pe_int) pa_nil)) pe_int))
  (pss_cons (ps_set (i := 6) sc_l_take.nd rfl (Or.inl rfl) (pe_op op_mod (pe_callTy call_int1 (by rfl) bi.int bt_int (pa_cons (pe_op op_mul (pe_op op_mod (pe_callTy call_int1 (by rfl) bi.int bt_int (pa_cons (pe_op op_mul (pv 5) (pv 5)) pa_nil)) pe_int) pe_int) pa_nil)) pe_int))
  (pss_one (ps_ret (pe_op op_mod (pe_callTy call_int1 (by rfl) bi.int bt_int (pa_cons (pe_op op_fdiv (pv 6) pe_int) pa_nil)) (pv 1)))))))), ?_⟩
    -- between the statements: the list holds some four
    refine ⟨fun σ H' => ∃ (p' q' r' : Int) (x5 x6 x7 x8 x9 : Option V), σ = [some (.ref b), some (.int many), x5, x6, x7, x8, x9] ∧
      (0 ≤ p' ∧ 0 ≤ q' ∧ q' < 2147483647 ∧ 0 ≤ r') ∧ H' = upd H b (.lst (bagL p' q' r' l)), ?_, ?_⟩
    · -- if _law_bag_here[0] == 0
      refine ⟨_, rfl, b, bagL p q r l, 0, .int p, rfl, rfl, SqL.of hb, rfl, rfl, _, rfl, ?_⟩
      refine if_d (fun _ => ?_) (fun _ => ⟨p, q, r, none, none, none, none, none, rfl, z, (upd_self hb).symm⟩)
      refine ⟨fun σ H' => ∃ c : Int, σ = [some (.ref b), some (.int many), some (.int c), none, none, none, none] ∧ 0 ≤ c ∧ H' = H, ?_, ?_⟩
      · refine ⟨_, rfl, b, bagL p q r l, 2, .int r, rfl, rfl, SqL.of hb, rfl, _, rfl, b, bagL p q r l, 3, .ref l, rfl, rfl, SqL.of hb, rfl,
          l, cs.map V.int, rfl, .inl (SqL.of hl), r, (cs.map V.int).length, rfl, rfl, _, rfl, ?_⟩
        refine if_d (fun hlt => ?_) (fun _ => ⟨0, rfl, by omega, rfl⟩)
        rw [List.length_map] at hlt
        obtain ⟨v, hv, hm⟩ := get_of (xs := cs) (i := r) z.2.2.2 hlt
        refine ⟨_, rfl, b, bagL p q r l, 3, .ref l, rfl, rfl, SqL.of hb, rfl, _, rfl, b, bagL p q r l, 2, .int r, rfl, rfl, SqL.of hb, rfl,
          l, cs.map V.int, r, .int v, rfl, rfl, SqL.of hl, atI_of z.2.2.2 (by rw [List.getElem?_map, hv]; rfl), v, rfl, hc v hm, rfl⟩
      · rintro σ H' ⟨c, rfl, hc0, eH⟩
        have eH := eH.symm; subst eH
        -- _law_bag_here[2] += 1
        refine ⟨_, rfl, b, bagL p q r l, 2, .int r, rfl, rfl, SqL.of hb, by decide, by decide, rfl, r, 1, rfl, rfl, b, bagL p q r l, 2, 2, rfl, rfl, hb, rfl, ?_⟩
        refine ⟨fun σ H' => ∃ p' : Int, σ = [some (.ref b), some (.int many), some (.int c), none, none, none, none] ∧ 0 ≤ p' ∧
          H' = upd H b (.lst (bagL p' q (r + 1) l)), ?_, ?_⟩
        · refine ⟨_, rfl, 10, 18, rfl, rfl, ⟨by decide, by decide, by decide⟩, c, _, rfl, rfl, _, rfl, ?_⟩
          refine if_d (fun _ => ?_) (fun _ => ⟨p, rfl, z.1, rfl⟩)
          refine ⟨_, rfl, _, rfl, b, bagL p q (r + 1) l, 0, 0, rfl, rfl, upd_same, rfl, c, rfl, hc0, ?_⟩
          rw [upd_upd]; rfl
        · rintro σ H' ⟨p', rfl, hp', rfl⟩
          refine ⟨_, rfl, b, bagL p' q (r + 1) l, 1, .int q, rfl, rfl, SqL.of upd_same, rfl, q, 48271, rfl, rfl, .inr ⟨by decide, by decide⟩, ?_⟩
          refine ⟨_, rfl, .inl ⟨c, rfl, c, 2147483647, rfl, rfl, (by show (0 : Int) < 2147483647; decide), q * 48271, c % 2147483647, rfl, rfl, ?_⟩⟩
          refine ⟨_, rfl, b, bagL p' q (r + 1) l, 2, .int (r + 1), rfl, rfl, SqL.of upd_same, rfl, 7919, r + 1, rfl, rfl, .inl ⟨by decide, by decide⟩, _, _, rfl, rfl, ?_⟩
          refine ⟨_, rfl, .inl ⟨_, rfl, _, 2147483647, rfl, rfl, (by show (0 : Int) < 2147483647; decide), ?_⟩⟩
          refine ⟨_, rfl, b, bagL p' q (r + 1) l, 1, 1, rfl, rfl, upd_same, rfl, ?_⟩
          refine ⟨p', (q * 48271 + c % 2147483647 + 7919 * (r + 1)) % 2147483647, r + 1, _, _, _, _, _, rfl, ⟨hp', Int.emod_nonneg _ (by decide), Int.emod_lt_of_pos _ (by decide), by omega⟩, ?_⟩
          rw [upd_upd]; rfl
    · rintro σ H' ⟨p', q', r', x5, x6, x7, x8, x9, rfl, z', eH⟩
      subst eH
      refine ⟨_, rfl, b, bagL p' q' r' l, 0, .int p', rfl, rfl, SqL.of upd_same, rfl, p', 0, rfl, rfl, _, rfl, ?_⟩
      refine if_d (fun hp => ?_) (fun _ => ?_)
      · -- a number is left of a great one
        refine ⟨_, rfl, b, bagL p' q' r' l, 0, .int p', rfl, rfl, SqL.of upd_same, rfl, .inl ⟨p', rfl, _, rfl, p', many, rfl, rfl, m0, ?_⟩⟩
        refine ⟨_, rfl, b, bagL p' q' r' l, 0, .int p', rfl, rfl, SqL.of upd_same, rfl, _, rfl, p', many, rfl, rfl, ⟨m0, m1⟩, ?_⟩
        refine ⟨_, rfl, b, bagL p' q' r' l, 0, 0, rfl, rfl, upd_same, rfl, ?_⟩
        refine ⟨_, rfl, ?_⟩
        rw [upd_upd]
        exact k (p' % many) (p' / many) q' r' (Int.emod_nonneg _ (by omega)) (Int.emod_lt_of_pos _ m0) ⟨Int.ediv_nonneg z'.1 (by omega), z'.2⟩
      · refine ⟨_, rfl, b, bagL p' q' r' l, 1, .int q', rfl, rfl, SqL.of upd_same, rfl, q', 1, rfl, rfl, _, 39373, rfl, rfl, .inr ⟨by decide, by decide⟩, ?_⟩
        refine .inl ⟨_, rfl, _, 1000000007, rfl, rfl, (by show (0 : Int) < 1000000007; decide), ?_⟩
        have g1 : 0 ≤ (q' + 1) * 39373 % 1000000007 := Int.emod_nonneg _ (by decide)
        have g2 : (q' + 1) * 39373 % 1000000007 < 1000000007 := Int.emod_lt_of_pos _ (by decide)
        refine ⟨_, rfl, _, rfl, _, _, rfl, rfl, .inl ⟨by omega, by omega⟩, ?_⟩
        refine .inl ⟨_, rfl, _, 998244353, rfl, rfl, (by show (0 : Int) < 998244353; decide), _, 30011, rfl, rfl, .inr ⟨by decide, by decide⟩, ?_⟩
        refine .inl ⟨_, rfl, _, 998244353, rfl, rfl, (by show (0 : Int) < 998244353; decide), ?_⟩
        refine ⟨_, rfl, _, 7, rfl, rfl, ⟨by decide, by decide⟩, ?_⟩
        refine .inl ⟨_, rfl, _, rfl, _, many, rfl, rfl, m0, ?_⟩
        exact k _ p' q' r' (Int.emod_nonneg _ (by omega)) (Int.emod_lt_of_pos _ m0) z'
end
end K26

set_option Elab.async false
set_option linter.all false
set_option maxRecDepth 100000
set_option maxHeartbeats 4000000
namespace K26
open PySem PySem.Spec PyProof.Rows L2 Evl Gx
abbrev s_l_one : Stmt := topS 29
theorem sc_l_one : FnScope ["_law_bag_here", "_law_things"] ["_law_bag_here", "_law_things"] (defScope s_l_one) := ⟨rfl, rfl, rfl, by decide +kernel, rfl, by decide +kernel, by decide +kernel⟩
abbrev s_l_number : Stmt := topS 30
theorem sc_l_number : FnScope ["_law_bag_here", "_law_way"] ["_law_bag_here"] (defScope s_l_number) := ⟨rfl, rfl, rfl, by decide +kernel, rfl, by decide +kernel, by decide +kernel⟩
section
variable {P : Program} {w : World} {K : PySem.W.Frag} {mg : Str → Option Value} {base : Heap}
variable {f_l_take f_l_one : Addr} {fd_l_take fd_l_one : FuncData}
theorem ok_one {f : Addr} {fd : FuncData} (D : Def K mg "_law_one" s_l_one f fd ["_law_bag_here", "_law_things"]) (bi : Bi mg)
    (D_l_take : Def K mg "_law_take" s_l_take f_l_take fd_l_take ["_law_bag_here", "_law_many"])
    (G_l_take : FnOk P w K mg base CX0 1 f_l_take fd_l_take ["_law_bag_here", "_law_many"] spTake) :
    FnOk P w K mg base CX0 2 f fd ["_law_bag_here", "_law_things"] (spOne K) := by
  refine D.fn.ok sc_l_one (fun vs H Q E h => ?_) (fun cdv A outer s H vs Q E hr h => ?_)
  · obtain ⟨b, l, xs, rfl, _⟩ := h
    rfl
  · obtain ⟨b, l, xs, rfl, hb, hl, h0, h1, k⟩ := h
    refine ⟨_, (pss_one (ps_ret (pe_ix ix_list (pv 1) (pe_call G_l_take (hr.mono (by first | decide | omega)) rfl D_l_take.mg D_l_take.fn.kp D_l_take.bd .nil pass0 (pa_cons (pv 0) (pa_cons (pe_callB call_len_seq (by rfl) bi.len bt_len (pa_cons (pv 1) pa_nil)) pa_nil))) (fun _ _ => rfl)))), ?_⟩
    refine ⟨_, rfl, _, rfl, _, rfl, l, xs, rfl, .inl hl, b, xs.length, rfl, hb, by omega, by omega, fun i i0 i1 => ?_⟩
    obtain ⟨v, e, m⟩ := item_in i0 i1
    exact ⟨l, xs, i, v, rfl, rfl, hl, e, k v m⟩
theorem ok_number {f : Addr} {fd : FuncData} (D : Def K mg "_law_number" s_l_number f fd ["_law_bag_here"]) (bi : Bi mg)
    (D_l_take : Def K mg "_law_take" s_l_take f_l_take fd_l_take ["_law_bag_here", "_law_many"])
    (G_l_take : FnOk P w K mg base CX0 1 f_l_take fd_l_take ["_law_bag_here", "_law_many"] spTake) :
    FnOk P w K mg base CX0 2 f fd ["_law_bag_here"] spNumber := by
  refine D.fn.ok sc_l_number (fun vs H Q E h => ?_) (fun cdv A outer s H vs Q E hr h => ?_)
  · obtain ⟨b, rfl, _⟩ := h
    rfl
  · obtain ⟨b, rfl, hb, k⟩ := h
    refine ⟨_, (pss_cons (ps_set (i := 1) sc_l_number.nd rfl (Or.inl rfl) (pe_call G_l_take (hr.mono (by first | decide | omega)) rfl D_l_take.mg D_l_take.fn.kp D_l_take.bd .nil pass0 (pa_cons (pv 0) (pa_cons pe_int pa_nil))))
  (pss_cons (ps_if (pt_cmpR op_gt (pv 1) pe_int (nomark _))
    (pss_one (ps_ret (pe_op op_sub (pe_call G_l_take (hr.mono (by first | decide | omega)) rfl D_l_take.mg D_l_take.fn.kp D_l_take.bd .nil pass0 (pa_cons (pv 0) (pa_cons pe_int pa_nil))) pe_int)))
    pss_nil)
  (pss_one (ps_ret (pe_op op_mul (pe_ix ix_list (pe_lst (pa_cons (pe_op op_sub (pe_op op_pow pe_int pe_int) (pe_call G_l_take (hr.mono (by first | decide | omega)) rfl D_l_take.mg D_l_take.fn.kp D_l_take.bd .nil pass0 (pa_cons (pv 0) (pa_cons pe_int pa_nil)))) (pa_cons (pe_call G_l_take (hr.mono (by first | decide | omega)) rfl D_l_take.mg D_l_take.fn.kp D_l_take.bd .nil pass0 (pa_cons (pv 0) (pa_cons pe_int pa_nil))) pa_nil))) (pv 1) (fun _ _ => rfl)) (pe_ix ix_list (pe_lst (pa_cons pe_int (pa_cons (pe_un un_neg pe_int) pa_nil))) (pe_call G_l_take (hr.mono (by first | decide | omega)) rfl D_l_take.mg D_l_take.fn.kp D_l_take.bd .nil pass0 (pa_cons (pv 0) (pa_cons pe_int pa_nil))) (fun _ _ => rfl))))))), ?_⟩
    refine ⟨_, rfl, b, 12, rfl, hb, by decide, by decide, fun way w0 w1 => ?_⟩
    refine ⟨_, rfl, way, 1, rfl, rfl, _, rfl, ?_⟩
    refine if_d (fun hw => ?_) (fun hw => ?_)
    · refine ⟨_, rfl, b, 13, rfl, hb, by decide, by decide, fun x x0 x1 => ⟨x, 6, rfl, rfl, ?_⟩⟩
      exact k (x - 6) ⟨by omega, by omega⟩ H (Ex.refl H)
    · refine ⟨10, 12, rfl, rfl, cp10_12, _, rfl, b, 3, rfl, hb, by decide, by decide, fun x x0 x1 => ⟨_, _, rfl, rfl, ?_⟩⟩
      refine ⟨_, rfl, b, 2000, rfl, hb, by decide, by decide, fun y y0 y1 => ⟨sz2, fun p hp => ?_⟩⟩
      have hb1 : Bag (upd H p (.lst [.int (10 ^ (12 : Int).toNat - x), .int y])) b := hb.to (Ex.new hp)
      have e1 : ∃ z : Int, atI [V.int (10 ^ (12 : Int).toNat - x), V.int y] way = some (.int z) ∧ Near z := by
        rw [p10_12]
        rcases (by omega : way = 0 ∨ way = 1) with rfl | rfl
        · exact ⟨_, rfl, by omega, by omega⟩
        · exact ⟨_, rfl, by omega, by omega⟩
      obtain ⟨z, ez, nz⟩ := e1
      refine ⟨_, rfl, p, _, way, .int z, rfl, rfl, SqL.of upd_same, ez, 1, rfl, sz2, fun q hq => ?_⟩
      refine ⟨_, rfl, b, 2, rfl, hb1.to (Ex.new hq), by decide, by decide, fun g g0 g1 => ?_⟩
      have ex := (Ex.new (o := .lst [.int (10 ^ (12 : Int).toNat - x), .int y]) hp).trans (Ex.new (o := .lst [.int 1, .int (-1)]) hq)
      rcases (by omega : g = 0 ∨ g = 1) with rfl | rfl
      · refine ⟨q, _, 0, .int 1, rfl, rfl, SqL.of upd_same, rfl, z, 1, rfl, rfl, .inr ⟨by decide, by decide⟩, ?_⟩
        exact k (z * 1) ⟨by omega, by omega⟩ _ ex
      · refine ⟨q, _, 1, .int (-1), rfl, rfl, SqL.of upd_same, rfl, z, -1, rfl, rfl, .inr ⟨by decide, by decide⟩, ?_⟩
        exact k (z * -1) ⟨by omega, by omega⟩ _ ex
end
end K26

set_option Elab.async false
set_option linter.all false
set_option maxRecDepth 100000
set_option maxHeartbeats 4000000
namespace K26
open PySem PySem.Spec PyProof.Rows L2 Evl Gx
abbrev s_l_step : Stmt := topS 31
theorem sc_l_step : FnScope ["_law_bag_here", "_law_word", "_law_by", "_law_keys", "_law_key", "_law_number_here"] ["_law_bag_here"] (defScope s_l_step) := ⟨rfl, rfl, rfl, by decide +kernel, rfl, by decide +kernel, by decide +kernel⟩
theorem tk6 {ks : List Int} (n : Nat) : cutV (ks.map V.int) none (some (6 : Int)) = (ks.take 6).map V.int := by
  have e := cut_take (ks.map V.int) 6
  rw [show ((6 : Nat) : Int) = (6 : Int) from rfl] at e
  rw [e, List.map_take]
section
variable {P : Program} {w : World} {K : PySem.W.Frag} {mg : Str → Option Value} {base : Heap}
variable {f_l_take f_l_one f_l_number : Addr} {fd_l_take fd_l_one fd_l_number : FuncData}
theorem ok_step {f : Addr} {fd : FuncData} (D : Def K mg "_law_step" s_l_step f fd ["_law_bag_here"]) (bi : Bi mg)
    (D_l_take : Def K mg "_law_take" s_l_take f_l_take fd_l_take ["_law_bag_here", "_law_many"])
    (G_l_take : FnOk P w K mg base CX0 1 f_l_take fd_l_take ["_law_bag_here", "_law_many"] spTake)
    (D_l_one : Def K mg "_law_one" s_l_one f_l_one fd_l_one ["_law_bag_here", "_law_things"])
    (G_l_one : FnOk P w K mg base CX0 2 f_l_one fd_l_one ["_law_bag_here", "_law_things"] (spOne K))
    (D_l_number : Def K mg "_law_number" s_l_number f_l_number fd_l_number ["_law_bag_here"])
    (G_l_number : FnOk P w K mg base CX0 2 f_l_number fd_l_number ["_law_bag_here"] spNumber) :
    FnOk P w K mg base CX0 3 f fd ["_law_bag_here"] (spStep K) := by
  refine D.fn.ok sc_l_step (fun vs H Q E h => ?_) (fun cdv A outer s H vs Q E hr h => ?_)
  · obtain ⟨b, rfl, _⟩ := h
    rfl
  · obtain ⟨b, rfl, hb, k⟩ := h
    refine ⟨_, (pss_cons (ps_set (i := 1) sc_l_step.nd rfl (Or.inl rfl) (pe_call G_l_one (hr.mono (by first | decide | omega)) rfl D_l_one.mg D_l_one.fn.kp D_l_one.bd .nil pass0 (pa_cons (pv 0) (pa_cons (pe_lst (pa_cons pe_str (pa_cons pe_str (pa_cons pe_str (pa_cons pe_str (pa_cons pe_str pa_nil)))))) pa_nil))))
  (pss_cons (ps_if (pt_cmpR op_eq (pv 1) pe_str (nomark _))
    (pss_cons (ps_set (i := 2) sc_l_step.nd rfl (Or.inr rfl) (pe_ix ix_list (pe_lst (pa_cons pe_int (pa_cons pe_int (pa_cons pe_int (pa_cons (pe_op op_add (pe_op op_pow pe_int pe_int) pe_int) pa_nil))))) (pe_call G_l_take (hr.mono (by first | decide | omega)) rfl D_l_take.mg D_l_take.fn.kp D_l_take.bd .nil pass0 (pa_cons (pv 0) (pa_cons pe_int pa_nil))) (fun _ _ => rfl)))
    (pss_cons (ps_set (i := 3) sc_l_step.nd rfl (Or.inl rfl) (pe_slice sl_list (pe_lc (own := [("_law_key", 4)]) rfl sc_l_step.nd (pi_range2 rfl bi.range (pa_cons (pe_un un_neg pe_int) (pa_cons pe_int pa_nil))) (blkOk_by (N := ["_law_bag_here", "_law_word", "_law_by", "_law_keys", "_law_key", "_law_number_here"]) (sc := defScope s_l_step) (by decide +kernel)) (fun _ _ _ _ _ => (pg_name (i := 4) sc_l_step.nd rfl (Or.inl rfl))) (fun _ _ _ _ _ => (pts_one (pt_cmpR op_eq (pe_call G_l_take (hr.mono (by first | decide | omega)) rfl D_l_take.mg D_l_take.fn.kp D_l_take.bd .nil pass0 (pa_cons (pv 0) (pa_cons pe_int pa_nil))) pe_int (nomark _)))) (fun _ _ _ _ _ => (pe_op op_mul (pv 4) (pv 2)))) po_none (po_some pe_int)))
    (pss_one (ps_ret (pe_tup (pa_cons pe_str (pa_cons (pe_callTy call_tupX (by rfl) bi.tuple bt_tuple (pa_cons (pe_lc (own := [("_law_key", 4)]) rfl sc_l_step.nd (pi_list (pv 3)) (blkOk_by (N := ["_law_bag_here", "_law_word", "_law_by", "_law_keys", "_law_key", "_law_number_here"]) (sc := defScope s_l_step) (by decide +kernel)) (fun _ _ _ _ _ => (pg_name (i := 4) sc_l_step.nd rfl (Or.inl rfl))) (fun _ _ _ _ _ => pts_nil) (fun _ _ _ _ _ => (pe_tup (pa_cons (pv 4) (pa_cons (pe_call G_l_number (hr.mono (by first | decide | omega)) rfl D_l_number.mg D_l_number.fn.kp D_l_number.bd .nil pass0 (pa_cons (pv 0) pa_nil)) pa_nil))))) pa_nil)) pa_nil)))))))
    pss_nil)
  (pss_cons (ps_set (i := 5) sc_l_step.nd rfl (Or.inl rfl) (pe_call G_l_number (hr.mono (by first | decide | omega)) rfl D_l_number.mg D_l_number.fn.kp D_l_number.bd .nil pass0 (pa_cons (pv 0) pa_nil)))
  (pss_cons (ps_if (pt_cmpR op_eq (pv 1) pe_str (nomark _))
    (pss_one (ps_ret (pe_tup (pa_cons pe_str (pa_cons (pe_callB (call_max2 rfl) (by rfl) bi.max bt_max (pa_cons pe_int (pa_cons (pe_callB call_abs (by rfl) bi.abs bt_abs (pa_cons (pv 5) pa_nil)) pa_nil))) pa_nil)))))
    pss_nil)
  (pss_one (ps_ret (pe_tup (pa_cons (pv 1) (pa_cons (pe_ifExp (L2.PW.pt (pw_or (pt_cmpR op_ne (pv 5) pe_int (nomark _)) (pw_or1 (pt_cmpR op_ne (pv 1) pe_str (nomark _))))) (pv 5) pe_int) pa_nil))))))))), ?_⟩
    refine ⟨_, rfl, sz5, fun p hp => ?_⟩
    have hb1 := hb.to (Ex.new (o := .lst [.str "plus", .str "times", .str "into", .str "over", .str "found"]) hp)
    have x1 := Ex.new (o := .lst [.str "plus", .str "times", .str "into", .str "over", .str "found"]) hp
    refine ⟨b, p, _, rfl, hb1, SqL.of upd_same, by show (0 : Nat) < 5; decide, by show (5 : Nat) < 100000; decide, fun x hx => ?_⟩
    generalize upd H p (.lst [.str "plus", .str "times", .str "into", .str "over", .str "found"]) = H1 at hb1 x1 ⊢
    refine ⟨_, rfl, ?_⟩
    have hx5 : x = .str "plus" ∨ x = .str "times" ∨ x = .str "into" ∨ x = .str "over" ∨ x = .str "found" := by
      simpa using hx
    by_cases hf : x = .str "found"
    · subst hf
      refine ⟨rfl, _, rfl, if_t (by decide +kernel) ?_⟩
      -- _law_by
      refine ⟨10, 11, rfl, rfl, cp10_11, _, 7, rfl, rfl, sz4, fun q hq => ?_⟩
      have hb2 := hb1.to (Ex.new (o := .lst [.int 1, .int 1, .int 1, .int (10 ^ (11 : Int).toNat + 7)]) hq)
      have x2 := x1.trans (Ex.new (o := .lst [.int 1, .int 1, .int 1, .int (10 ^ (11 : Int).toNat + 7)]) hq)
      refine ⟨_, rfl, b, 4, rfl, hb2, by decide, by decide, fun i i0 i1 => ?_⟩
      have eby : ∃ y : Int, atI [V.int 1, .int 1, .int 1, .int (10 ^ (11 : Int).toNat + 7)] i = some (.int y) ∧ 0 < y ∧ y ≤ 100000000007 := by
        rw [p10_11]
        rcases (by omega : i = 0 ∨ i = 1 ∨ i = 2 ∨ i = 3) with rfl | rfl | rfl | rfl
        · exact ⟨1, rfl, by omega, by omega⟩
        · exact ⟨1, rfl, by omega, by omega⟩
        · exact ⟨1, rfl, by omega, by omega⟩
        · exact ⟨_, rfl, by omega, by omega⟩
      obtain ⟨y, ey, y0, y1⟩ := eby
      refine ⟨q, _, i, .int y, rfl, rfl, SqL.of upd_same, ey, ?_⟩
      generalize upd H1 q (.lst [.int 1, .int 1, .int 1, .int (10 ^ (11 : Int).toNat + 7)]) = H2 at hb2 x2 ⊢
      -- _law_keys
      refine ⟨_, rfl, -3, 4, rfl, ⟨by decide, by decide, by decide, by decide⟩, fun d hd => ?_⟩
      refine lc_range (lo := -3) (n := 7) (fun j H' => Ex H2 H' ∧ ∃ ks : List Int, H' d = some (.lst (ks.map V.int)) ∧ ks.length ≤ j ∧
        ks.Pairwise (· < ·) ∧ ∀ k ∈ ks, -3 * y ≤ k ∧ k < (-3 + (j : Int)) * y ∧ k ≤ 3 * y) ?_ ?_ ?_
      · exact ⟨Ex.new hd, [], upd_same, Nat.le_refl _, .nil, by simp⟩
      · rintro j H' hj ⟨e1, ks, p1, p2, p3, p4⟩
        refine ⟨rfl, _, rfl, b, 2, rfl, hb2.to e1, by decide, by decide, fun z z0 z1 => ⟨rfl, _, rfl, ?_⟩⟩
        have step : (-3 + ((j + 1 : Nat) : Int)) * y = (-3 + (j : Int)) * y + y := by
          rw [show (-3 + ((j + 1 : Nat) : Int)) = (-3 + (j : Int)) + 1 by omega, Int.add_mul, Int.one_mul]
        refine if_d (fun _ => ?_) (fun _ => ?_)
        · refine ⟨_, rfl, _, rfl, -3 + (j : Int), y, rfl, rfl, .inl ⟨by omega, by omega⟩, ks.map V.int, p1, by rw [List.length_map]; exact small (by omega), ?_⟩
          have lo : -3 * y ≤ (-3 + (j : Int)) * y := Int.mul_le_mul_of_nonneg_right (by omega) (by omega)
          have hi : (-3 + (j : Int)) * y ≤ 3 * y := Int.mul_le_mul_of_nonneg_right (by omega) (by omega)
          refine ⟨e1.mut hd, ks ++ [(-3 + (j : Int)) * y], ?_, by simp; omega, ?_, ?_⟩
          · rw [upd_same, List.map_append]; rfl
          · rw [List.pairwise_append]
            refine ⟨p3, List.pairwise_singleton _ _, fun u hu v hv => ?_⟩
            rw [List.mem_singleton] at hv
            subst hv
            exact (p4 u hu).2.1
          · intro u hu
            rcases List.mem_append.mp hu with g | g
            · have := p4 u g
              omega
            · rw [List.mem_singleton] at g
              subst g
              omega
        · exact ⟨e1, ks, p1, by omega, p3, fun u hu => by have := p4 u hu; omega⟩
      · rintro H3 ⟨e1, ks, p1, p2, p3, p4⟩
        refine ⟨6, rfl, d, ks.map V.int, rfl, SqL.of p1, fun r hrr => ?_⟩
        rw [tk6 6]
        have nn : ∀ k ∈ ks.take 6, Near k := fun u hu => by
          have := p4 u (List.mem_of_mem_take hu)
          constructor <;> omega
        have pw : (ks.take 6).Pairwise (· < ·) := p3.sublist (List.take_sublist _ _)
        have ln : (ks.take 6).length ≤ 6 := by rw [List.length_take]; omega
        generalize ks.take 6 = ms at nn pw ln ⊢
        have e2 : Ex H2 (upd H3 r (.lst (ms.map V.int))) := e1.trans (Ex.new hrr)
        have hr4 : upd H3 r (.lst (ms.map V.int)) r = some (.lst (ms.map V.int)) := upd_same
        generalize upd H3 r (.lst (ms.map V.int)) = H4 at e2 hr4 ⊢
        -- return ('found', tuple([..]))
        refine ⟨_, rfl, r, rfl, ⟨_, SqL.of hr4⟩, fun d2 hd2 => ?_⟩
        refine lc_list (xs := ms.map V.int) (fun j H' => Ex H4 H' ∧ ∃ (as : List Addr) (ps : List (Int × Int)), H' d2 = some (.lst (as.map V.ref)) ∧
          Paired (PairAt K H') as ps ∧ ps.map (·.1) = ms.take j ∧ ∀ pr ∈ ps, Near pr.2) ?_ (fun j H' _ q => SqL.of (q.1 r _ hr4)) ?_ ?_
        · exact ⟨Ex.new hd2, [], [], upd_same, .nil, rfl, by simp⟩
        · rintro j v H' hj ⟨g1, as, ps, g2, g3, g4, g5⟩
          obtain ⟨u, hu, rfl⟩ : ∃ u, ms[j]? = some u ∧ v = V.int u := by
            rw [List.getElem?_map] at hj
            obtain ⟨u, h1, h2⟩ := Option.map_eq_some_iff.mp hj
            exact ⟨u, h1, h2.symm⟩
          have hjl := (List.getElem?_eq_some_iff.mp hu).1
          have asl : as.length = j := by
            have l1 : as.length = ps.length := Paired.length g3
            have l2 := congrArg List.length g4
            rw [List.length_map, List.length_take] at l2
            omega
          refine ⟨rfl, _, rfl, _, rfl, b, rfl, hb2.to (e2.trans g1), fun m hm H5 e5 => ⟨sz2, fun t ht => ?_⟩⟩
          have n2 : H' d2 ≠ none := by rw [g2]; simp
          have td : t ≠ d2 := fun e => by subst e; rw [e5 _ _ g2] at ht; cases ht
          refine ⟨as.map V.ref, by rw [upd_ne td.symm]; exact e5 _ _ g2, by rw [List.length_map]; exact small (by omega), ?_⟩
          have e6 : Ex H4 (upd (upd H5 t (.tup [.int u, .int m])) d2 (.lst (as.map V.ref ++ [.ref t]))) := Ex.mut ((g1.trans e5).trans (Ex.new ht)) hd2
          refine ⟨e6, as ++ [t], ps ++ [(u, m)], by rw [upd_same, List.map_append]; rfl, ?_, ?_, ?_⟩
          · refine paired_app (L2.Paired.mapP g3 fun a pr q => ?_) (.cons ?_ .nil)
            · -- an elder pair stands
              rcases q with (q | ⟨o, q⟩) | q
              · refine .inl (.inl ?_)
                have nad : a ≠ d2 := fun e => by subst e; rw [g2] at q; cases q
                rw [upd_ne nad]
                exact (e5.trans (Ex.new ht)) _ _ q
              · refine .inl (.inr ⟨o, ?_⟩)
                have nad : a ≠ d2 := fun e => by subst e; rw [g2] at q; cases q
                rw [upd_ne nad]
                exact (e5.trans (Ex.new ht)) _ _ q
              · exact .inr q
            · refine .inl (.inl ?_)
              rw [upd_ne td]
              exact upd_same
          · rw [List.map_append, g4]
            show ms.take j ++ [u] = _
            rw [List.take_add_one, hu]; rfl
          · intro pr hpr
            rcases List.mem_append.mp hpr with g | g
            · exact g5 pr g
            · rw [List.mem_singleton] at g; subst g; exact hm
        · rintro H5 ⟨g1, as, ps, g2, g3, g4, g5⟩
          rw [List.length_map, List.take_length] at g4
          refine ⟨d2, as.map V.ref, rfl, SqL.of g2, fun c H6 hc e6 hcx => ⟨sz2, fun t ht => ?_⟩⟩
          have e7 : Ex H (upd H6 t (.tup [.str "found", .ref c])) := (((x2.trans e2).trans g1).trans e6).trans (Ex.new ht)
          refine k _ (.found ps) _ e7 ⟨?_, ?_, ?_⟩ ⟨t, c, as, rfl, SqT.of upd_same, hcx.to (Ex.new ht), paired_to (e6.trans (Ex.new ht)) g3⟩
          · rw [g4]
            exact pw.imp (fun h => by omega)
          · intro pr hpr
            refine ⟨nn pr.1 ?_, g5 pr hpr⟩
            rw [← g4]
            exact List.mem_map_of_mem hpr
          · have := congrArg List.length g4
            rw [List.length_map] at this
            omega
    · -- the other words
      rcases hx5 with e | e | e | e | e
      · subst e
        refine ⟨rfl, _, rfl, if_f (by decide +kernel) ?_⟩
        refine ⟨_, rfl, b, rfl, hb1, fun n hn H2 e2 => ?_⟩
        refine ⟨_, rfl, rfl, _, rfl, if_f (by decide +kernel) ?_⟩
        refine ⟨_, rfl, _, rfl, rfl, _, rfl, ?_⟩
        refine if_nd (fun _ => ?_) (fun _ => ⟨_, rfl, rfl, _, rfl, ?_⟩)
        · refine ⟨_, rfl, sz2, fun t ht => ?_⟩
          exact k _ (.plus n) _ ((x1.trans e2).trans (Ex.new ht)) hn ⟨t, rfl, SqT.of upd_same⟩
        · refine if_t (by decide +kernel) ⟨_, rfl, sz2, fun t ht => ?_⟩
          exact k _ (.plus n) _ ((x1.trans e2).trans (Ex.new ht)) hn ⟨t, rfl, SqT.of upd_same⟩
      · subst e
        refine ⟨rfl, _, rfl, if_f (by decide +kernel) ?_⟩
        refine ⟨_, rfl, b, rfl, hb1, fun n hn H2 e2 => ?_⟩
        refine ⟨_, rfl, rfl, _, rfl, if_f (by decide +kernel) ?_⟩
        refine ⟨_, rfl, _, rfl, rfl, _, rfl, ?_⟩
        refine if_nd (fun h0 => ?_) (fun _ => ⟨_, rfl, rfl, _, rfl, ?_⟩)
        · refine ⟨_, rfl, sz2, fun t ht => ?_⟩
          exact k _ (.times n) _ ((x1.trans e2).trans (Ex.new ht)) ⟨hn, fun e => h0 (by rw [e])⟩ ⟨t, rfl, SqT.of upd_same⟩
        · refine if_f (by decide +kernel) ⟨sz2, fun t ht => ?_⟩
          exact k _ (.times 2) _ ((x1.trans e2).trans (Ex.new ht)) ⟨⟨by decide, by decide⟩, by decide⟩ ⟨t, rfl, SqT.of upd_same⟩
      · subst e
        refine ⟨rfl, _, rfl, if_f (by decide +kernel) ?_⟩
        refine ⟨_, rfl, b, rfl, hb1, fun n hn H2 e2 => ?_⟩
        refine ⟨_, rfl, rfl, _, rfl, if_t (by decide +kernel) ?_⟩
        refine ⟨_, rfl, n, rfl, 1, _, rfl, sz2, fun t ht => ?_⟩
        refine k _ (.into (if (if n < 0 then -n else n) > 1 then (if n < 0 then -n else n) else 1)) _ ((x1.trans e2).trans (Ex.new ht)) ?_ ⟨t, rfl, SqT.of upd_same⟩
        have h1 := hn.1
        have h2 := hn.2
        constructor
        · split <;> (try split) <;> omega
        · split <;> (try split) <;> omega
      · subst e
        refine ⟨rfl, _, rfl, if_f (by decide +kernel) ?_⟩
        refine ⟨_, rfl, b, rfl, hb1, fun n hn H2 e2 => ?_⟩
        refine ⟨_, rfl, rfl, _, rfl, if_f (by decide +kernel) ?_⟩
        refine ⟨_, rfl, _, rfl, rfl, _, rfl, ?_⟩
        refine if_nd (fun _ => ?_) (fun _ => ⟨_, rfl, rfl, _, rfl, ?_⟩)
        · refine ⟨_, rfl, sz2, fun t ht => ?_⟩
          exact k _ (.over n) _ ((x1.trans e2).trans (Ex.new ht)) hn ⟨t, rfl, SqT.of upd_same⟩
        · refine if_t (by decide +kernel) ⟨_, rfl, sz2, fun t ht => ?_⟩
          exact k _ (.over n) _ ((x1.trans e2).trans (Ex.new ht)) hn ⟨t, rfl, SqT.of upd_same⟩
      · exact absurd e hf
end
end K26

set_option Elab.async false
set_option linter.all false
set_option maxRecDepth 100000
set_option maxHeartbeats 4000000
namespace K26
open PySem PySem.Spec PyProof.Rows L2 Evl Gx
abbrev s_l_test : Stmt := topS 32
theorem sc_l_test : FnScope ["_law_bag_here", "_law_names", "_law_name", "_law_way", "_law_steps", "_law_k"] ["_law_bag_here", "_law_names"] (defScope s_l_test) := ⟨rfl, rfl, rfl, by decide +kernel, rfl, by decide +kernel, by decide +kernel⟩
abbrev s_l_leaf : Stmt := topS 33
theorem sc_l_leaf : FnScope ["_law_bag_here", "_law_names"] ["_law_bag_here", "_law_names"] (defScope s_l_leaf) := ⟨rfl, rfl, rfl, by decide +kernel, rfl, by decide +kernel, by decide +kernel⟩
def spTest (K : PySem.W.Frag) : Sp := fun vs H Q _ => ∃ (b l : Addr) (ns : List Str), vs = [.ref b, .ref l] ∧ Bag H b ∧ SqL K H l (ns.map V.str) ∧
  0 < ns.length ∧ ns.length ≤ 100 ∧ ∀ v lf H', Ex H H' → Leaf.ok ns lf → LeafAt K H' v lf → Q v H'
theorem sz6 : (6 : Nat) ≤ sizeLine := by decide
theorem name_in {ns : List Str} {x : V} (h : x ∈ ns.map V.str) : ∃ n ∈ ns, x = .str n := by
  obtain ⟨n, h1, h2⟩ := List.mem_map.mp h
  exact ⟨n, h1, h2.symm⟩
section
variable {P : Program} {w : World} {K : PySem.W.Frag} {mg : Str → Option Value} {base : Heap}
variable {f_l_take f_l_one f_l_step f_l_test : Addr} {fd_l_take fd_l_one fd_l_step fd_l_test : FuncData}
theorem ok_test {f : Addr} {fd : FuncData} (D : Def K mg "_law_test" s_l_test f fd ["_law_bag_here", "_law_names"]) (bi : Bi mg)
    (D_l_take : Def K mg "_law_take" s_l_take f_l_take fd_l_take ["_law_bag_here", "_law_many"])
    (G_l_take : FnOk P w K mg base CX0 1 f_l_take fd_l_take ["_law_bag_here", "_law_many"] spTake)
    (D_l_one : Def K mg "_law_one" s_l_one f_l_one fd_l_one ["_law_bag_here", "_law_things"])
    (G_l_one : FnOk P w K mg base CX0 2 f_l_one fd_l_one ["_law_bag_here", "_law_things"] (spOne K))
    (D_l_step : Def K mg "_law_step" s_l_step f_l_step fd_l_step ["_law_bag_here"])
    (G_l_step : FnOk P w K mg base CX0 3 f_l_step fd_l_step ["_law_bag_here"] (spStep K)) :
    FnOk P w K mg base CX0 4 f fd ["_law_bag_here", "_law_names"] (spTest K) := by
  refine D.fn.ok sc_l_test (fun vs H Q E h => ?_) (fun cdv A outer s0 H vs Q E hr h => ?_)
  · obtain ⟨b, l, ns, rfl, _⟩ := h
    rfl
  · obtain ⟨b, l, ns, rfl, hb, hl, n0, n1, k⟩ := h
    refine ⟨_, (pss_cons (ps_par (i := 2) (j := 3) rfl sc_l_test.nd rfl rfl (by decide) rfl rfl (pa_cons (pe_call G_l_one (hr.mono (by first | decide | omega)) rfl D_l_one.mg D_l_one.fn.kp D_l_one.bd .nil pass0 (pa_cons (pv 0) (pa_cons (pv 1) pa_nil))) (pa_cons (pe_call G_l_take (hr.mono (by first | decide | omega)) rfl D_l_take.mg D_l_take.fn.kp D_l_take.bd .nil pass0 (pa_cons (pv 0) (pa_cons pe_int pa_nil))) pa_nil)) (by rfl))
  (pss_cons (ps_if (pt_cmpR op_lt (pv 3) pe_int (nomark _))
    (pss_one (ps_ret (pe_tup (pa_cons (pe_ix ix_list (pe_lst (pa_cons pe_str (pa_cons pe_str pa_nil))) (pv 3) (fun _ _ => rfl)) (pa_cons (pv 2) pa_nil)))))
    pss_nil)
  (pss_cons (ps_set (i := 4) sc_l_test.nd rfl (Or.inl rfl) (pe_tup pa_nil))
  (Evl.pss_cut (ps_if (pt_cmpR op_gt (pv 3) pe_int (nomark _))
    (pss_one (ps_set (i := 4) sc_l_test.nd rfl (Or.inl rfl) (pe_tup (pa_cons (pe_tup (pa_cons pe_str (pa_cons (pe_op op_sub (pe_call G_l_take (hr.mono (by first | decide | omega)) rfl D_l_take.mg D_l_take.fn.kp D_l_take.bd .nil pass0 (pa_cons (pv 0) (pa_cons pe_int pa_nil))) pe_int) pa_nil))) (pa_cons (pe_tup (pa_cons pe_str (pa_cons (pe_op op_sub (pe_call G_l_take (hr.mono (by first | decide | omega)) rfl D_l_take.mg D_l_take.fn.kp D_l_take.bd .nil pass0 (pa_cons (pv 0) (pa_cons pe_int pa_nil))) pe_int) pa_nil))) pa_nil)))))
    pss_nil)
  (Evl.pss_cut (ps_if (pt_cmpR op_gt (pv 3) pe_int (nomark _))
    (pss_one (ps_set (i := 4) sc_l_test.nd rfl (Or.inl rfl) (pe_callTy call_tupX (by rfl) bi.tuple bt_tuple (pa_cons (pe_lc (own := [("_law_k", 5)]) rfl sc_l_test.nd (pi_range1 rfl bi.range (pa_cons (pe_op op_add pe_int (pe_call G_l_take (hr.mono (by first | decide | omega)) rfl D_l_take.mg D_l_take.fn.kp D_l_take.bd .nil pass0 (pa_cons (pv 0) (pa_cons pe_int pa_nil)))) pa_nil)) (blkOk_by (N := ["_law_bag_here", "_law_names", "_law_name", "_law_way", "_law_steps", "_law_k"]) (sc := defScope s_l_test) (by decide +kernel)) (fun _ _ _ _ _ => (pg_name (i := 5) sc_l_test.nd rfl (Or.inl rfl))) (fun _ _ _ _ _ => pts_nil) (fun _ _ _ _ _ => (pe_call G_l_step (hr.mono (by first | decide | omega)) rfl D_l_step.mg D_l_step.fn.kp D_l_step.bd .nil pass0 (pa_cons (pv 0) pa_nil)))) pa_nil))))
    pss_nil)
  (pss_one (ps_ret (pe_tup (pa_cons pe_str (pa_cons (pv 2) (pa_cons (pv 4) (pa_cons (pe_call G_l_one (hr.mono (by first | decide | omega)) rfl D_l_one.mg D_l_one.fn.kp D_l_one.bd .nil pass0 (pa_cons (pv 0) (pa_cons (pe_lst (pa_cons pe_str (pa_cons pe_str (pa_cons pe_str (pa_cons pe_str (pa_cons pe_str (pa_cons pe_str pa_nil))))))) pa_nil))) (pa_cons (pe_op op_sub (pe_call G_l_take (hr.mono (by first | decide | omega)) rfl D_l_take.mg D_l_take.fn.kp D_l_take.bd .nil pass0 (pa_cons (pv 0) (pa_cons pe_int pa_nil))) pe_int) pa_nil))))))))))))), ?_⟩
    refine ⟨_, rfl, _, rfl, b, l, _, rfl, hb, hl, by rw [List.length_map]; omega, by rw [List.length_map]; omega, fun x hx => ?_⟩
    obtain ⟨n, hn, rfl⟩ := name_in hx
    refine ⟨_, rfl, b, 10, rfl, hb, by decide, by decide, fun way w0 w1 => ⟨_, _, rfl, ?_⟩⟩
    refine ⟨_, rfl, way, 2, rfl, rfl, _, rfl, if_d (fun h2 => ?_) (fun h2 => ?_)⟩
    · refine ⟨sz2, fun p np => ⟨_, rfl, p, _, way, if way = 0 then .str "empty" else .str "number", rfl, rfl, SqL.of upd_same, ?_, _, rfl, sz2, fun t nt => ?_⟩⟩
      · rcases (by omega : way = 0 ∨ way = 1) with rfl | rfl <;> rfl
      · rcases (by omega : way = 0 ∨ way = 1) with rfl | rfl
        · exact k _ (.empty n) _ ((Ex.new np).trans (Ex.new nt)) hn ⟨t, rfl, SqT.of upd_same⟩
        · exact k _ (.number n) _ ((Ex.new np).trans (Ex.new nt)) hn ⟨t, rfl, SqT.of upd_same⟩
    · refine ⟨by decide, fun e0 ne0 => ?_⟩
      have x0 := Ex.new (o := .tup []) ne0
      have q0 : upd H e0 (.tup []) e0 = some (.tup []) := upd_same
      generalize upd H e0 (.tup []) = H0 at x0 q0 ⊢
      refine ⟨fun σ H' => ∃ (c : Addr) (ws : List V) (ss : List Stp), σ = [some (.ref b), some (.ref l), some (.str n), some (.int way), some (.ref c), none] ∧ Ex H H' ∧
        SqT K H' c ws ∧ StpsAt K H' ws ss ∧ (∀ s ∈ ss, Stp.ok s) ∧ ss.length ≤ 4, ?_, fun σ H1 m => ?_⟩
      · refine ⟨_, rfl, way, 4, rfl, rfl, _, rfl, if_d (fun h4 => ?_) (fun h4 => ?_)⟩
        · refine ⟨_, rfl, b, 7, rfl, hb.to x0, by decide, by decide, fun y y0 y1 => ⟨y, 3, rfl, rfl, sz2, fun t1 n1 => ?_⟩⟩
          have x1 := ex_upd (o := .tup [.str "plus", .int (y - 3)]) x0 n1
          have u1 : upd H0 t1 (.tup [.str "plus", .int (y - 3)]) t1 = some (.tup [.str "plus", .int (y - 3)]) := upd_same
          generalize upd H0 t1 (.tup [.str "plus", .int (y - 3)]) = H1 at x1 u1 ⊢
          refine ⟨_, rfl, b, 9, rfl, hb.to x1, by decide, by decide, fun z z0 z1 => ⟨z, 4, rfl, rfl, sz2, fun t2 n2 => ?_⟩⟩
          have x2 := ex_upd (o := .tup [.str "over", .int (z - 4)]) x1 n2
          have u2 : upd H1 t2 (.tup [.str "over", .int (z - 4)]) t2 = some (.tup [.str "over", .int (z - 4)]) := upd_same
          have v2 := (Ex.new (o := .tup [.str "over", .int (z - 4)]) n2) _ _ u1
          generalize upd H1 t2 (.tup [.str "over", .int (z - 4)]) = H2 at x2 u2 v2 ⊢
          refine ⟨sz2, fun t3 n3 => ?_⟩
          have e3 := Ex.new (o := .tup [.ref t1, .ref t2]) n3
          refine ⟨t3, [.ref t1, .ref t2], [.plus (y - 3), .over (z - 4)], rfl, x2.trans e3, SqT.of upd_same, .cons ⟨t1, rfl, SqT.of (e3 _ _ v2)⟩ (.cons ⟨t2, rfl, SqT.of (e3 _ _ u2)⟩ .nil), ?_, by show 2 ≤ 4; decide⟩
          intro s hs
          rcases List.mem_cons.mp hs with rfl | hs
          · exact ⟨by omega, by omega⟩
          · rw [List.mem_singleton] at hs
            subst hs
            exact ⟨by omega, by omega⟩
        · exact ⟨e0, [], [], rfl, x0, SqT.of q0, .nil, by simp, by decide⟩
      · obtain ⟨c, ws, ss, rfl, x1, hc, hst, ho, hl4⟩ := m
        refine ⟨fun σ H' => ∃ (c : Addr) (ws : List V) (ss : List Stp), σ = [some (.ref b), some (.ref l), some (.str n), some (.int way), some (.ref c), none] ∧ Ex H H' ∧
          SqT K H' c ws ∧ StpsAt K H' ws ss ∧ (∀ s ∈ ss, Stp.ok s) ∧ ss.length ≤ 4, ?_, fun σ H2 m => ?_⟩
        · refine ⟨_, rfl, way, 7, rfl, rfl, _, rfl, if_d (fun h4 => ?_) (fun h4 => ?_)⟩
          · refine ⟨_, rfl, b, 3, rfl, hb.to x1, by decide, by decide, fun y y0 y1 => ⟨1, y, rfl, rfl, ?_⟩⟩
            refine ⟨1 + y, rfl, by omega, by omega, fun d nd => ?_⟩
            have hm : (1 + y).toNat ≤ 3 := by omega
            refine lc_range (lo := 0) (n := (1 + y).toNat) (fun j H' => Ex H1 H' ∧ ∃ (ws : List V) (ss : List Stp), H' d = some (.lst ws) ∧ ss.length = j ∧ (∀ s ∈ ss, Stp.ok s) ∧ StpsAt K H' ws ss) ?_ ?_ ?_
            · exact ⟨Ex.new nd, [], [], upd_same, rfl, by simp, .nil⟩
            · rintro j H' hj ⟨e1, ws, ss, hw, hs, ho, hst⟩
              have wl : ws.length = j := by rw [Paired.length hst, hs]
              refine ⟨rfl, _, rfl, b, rfl, (hb.to x1).to e1, fun v s H2 e2 hos hv => ?_⟩
              have ei : ExI H2 (upd H2 d (.lst (ws ++ [v]))) := ExI.put (e2 _ _ hw) rfl
              refine ⟨ws, e2 _ _ hw, small (by omega), (e1.trans e2).mut nd, ws ++ [v], ss ++ [s], upd_same, by simp [hs], fun z hz => ?_, paired_app (stps_toI (stps_to hst e2) ei) (.cons (hv.toI ei) .nil)⟩
              rcases List.mem_append.mp hz with g | g
              · exact ho z g
              · rw [List.mem_singleton] at g; subst g; exact hos
            · rintro H2 ⟨e1, ws, ss, hw, hs, ho, hst⟩
              refine ⟨d, ws, rfl, SqL.of hw, fun t H3 nt e3 ht => ?_⟩
              exact ⟨t, ws, ss, rfl, (x1.trans e1).trans e3, ht.sq, stps_to hst e3, ho, by omega⟩
          · exact ⟨c, ws, ss, rfl, x1, hc, hst, ho, hl4⟩
        · obtain ⟨c, ws, ss, rfl, x1, hc, hst, ho, hl4⟩ := m
          refine ⟨_, rfl, _, rfl, _, rfl, sz6, fun p np => ?_⟩
          have x2 := ex_upd (o := .lst [.str "<", .str "<=", .str "<>", .str "=", .str ">", .str ">="]) x1 np
          have x12 := Ex.new (o := .lst [.str "<", .str "<=", .str "<>", .str "=", .str ">", .str ">="]) np
          refine ⟨b, p, _, rfl, hb.to x2, SqL.of upd_same, by show 0 < 6; decide, by show 6 < 100000; decide, fun x hx => ?_⟩
          have hsg : ∃ sg ∈ sgns, x = .str sg := by
            obtain ⟨sg, h1, h2⟩ := List.mem_map.mp (show x ∈ sgns.map V.str from hx)
            exact ⟨sg, h1, h2.symm⟩
          obtain ⟨sg, h1, rfl⟩ := hsg
          refine ⟨_, rfl, b, 9, rfl, hb.to x2, by decide, by decide, fun z z0 z1 => ⟨z, 4, rfl, rfl, sz5, fun t nt => ?_⟩⟩
          have x3 := x12.trans (Ex.new (o := .tup [.str "asks", .str n, .ref c, .str sg, .int (z - 4)]) nt)
          exact k _ (.asks n ss sg (z - 4)) _ (x1.trans x3) ⟨hn, ho, hl4, h1, by omega, by omega⟩ ⟨t, c, ws, rfl, SqT.of upd_same, ex_t x3 hc, stps_to hst x3⟩
theorem ok_leaf {f : Addr} {fd : FuncData} (D : Def K mg "_law_leaf" s_l_leaf f fd ["_law_bag_here", "_law_names"]) (bi : Bi mg)
    (D_l_take : Def K mg "_law_take" s_l_take f_l_take fd_l_take ["_law_bag_here", "_law_many"])
    (G_l_take : FnOk P w K mg base CX0 1 f_l_take fd_l_take ["_law_bag_here", "_law_many"] spTake)
    (D_l_one : Def K mg "_law_one" s_l_one f_l_one fd_l_one ["_law_bag_here", "_law_things"])
    (G_l_one : FnOk P w K mg base CX0 2 f_l_one fd_l_one ["_law_bag_here", "_law_things"] (spOne K))
    (D_l_test : Def K mg "_law_test" s_l_test f_l_test fd_l_test ["_law_bag_here", "_law_names"])
    (G_l_test : FnOk P w K mg base CX0 4 f_l_test fd_l_test ["_law_bag_here", "_law_names"] (spTest K)) :
    FnOk P w K mg base CX0 5 f fd ["_law_bag_here", "_law_names"] (spTest K) := by
  refine D.fn.ok sc_l_leaf (fun vs H Q E h => ?_) (fun cdv A outer s0 H vs Q E hr h => ?_)
  · obtain ⟨b, l, ns, rfl, _⟩ := h
    rfl
  · obtain ⟨b, l, ns, rfl, hb, hl, n0, n1, k⟩ := h
    refine ⟨_, (pss_cons (ps_if (pt_cmpR op_eq (pe_call G_l_take (hr.mono (by first | decide | omega)) rfl D_l_take.mg D_l_take.fn.kp D_l_take.bd .nil pass0 (pa_cons (pv 0) (pa_cons pe_int pa_nil))) pe_int (nomark _))
    (pss_one (ps_ret (pe_tup (pa_cons pe_str (pa_cons (pe_call G_l_one (hr.mono (by first | decide | omega)) rfl D_l_one.mg D_l_one.fn.kp D_l_one.bd .nil pass0 (pa_cons (pv 0) (pa_cons (pe_lst (pa_cons pe_str (pa_cons pe_str (pa_cons pe_str (pa_cons pe_str pa_nil))))) pa_nil))) pa_nil)))))
    pss_nil)
  (pss_one (ps_ret (pe_call G_l_test (hr.mono (by first | decide | omega)) rfl D_l_test.mg D_l_test.fn.kp D_l_test.bd .nil pass0 (pa_cons (pv 0) (pa_cons (pv 1) pa_nil)))))), ?_⟩
    refine ⟨_, rfl, b, 9, rfl, hb, by decide, by decide, fun way w0 w1 => ⟨rfl, _, rfl, if_d (fun h0 => ?_) (fun h0 => ?_)⟩⟩
    · refine ⟨_, rfl, sz4, fun p np => ?_⟩
      have x1 := Ex.new (o := .lst [.str "error", .str "no", .str "unknown", .str "yes"]) np
      refine ⟨b, p, _, rfl, hb.to x1, SqL.of upd_same, by show 0 < 4; decide, by show 4 < 100000; decide, fun x hx => ?_⟩
      obtain ⟨wd, h1, h2⟩ := List.mem_map.mp (show x ∈ words.map V.str from hx)
      subst h2
      exact ⟨sz2, fun t nt => k _ (.always wd) _ (x1.trans (Ex.new nt)) h1 ⟨t, rfl, SqT.of upd_same⟩⟩
    · exact ⟨_, rfl, _, rfl, b, l, ns, rfl, hb, hl, n0, n1, k⟩
end
end K26

set_option Elab.async false
set_option linter.all false
set_option maxRecDepth 100000
set_option maxHeartbeats 4000000
namespace K26
open PySem PySem.Spec PyProof.Rows L2 Evl Gx
abbrev s_l_small : Stmt := topS 34
theorem sc_l_small : FnScope ["_law_bag_here", "_law_names", "_law_way", "_law_leaf_here"] ["_law_bag_here", "_law_names"] (defScope s_l_small) := ⟨rfl, rfl, rfl, by decide +kernel, rfl, by decide +kernel, by decide +kernel⟩
def spSmall (K : PySem.W.Frag) : Sp := fun vs H Q _ => ∃ (b l : Addr) (ns : List Str), vs = [.ref b, .ref l] ∧ Bag H b ∧ SqL K H l (ns.map V.str) ∧
  0 < ns.length ∧ ns.length ≤ 100 ∧ ∀ v c H', Ex H H' → Cnd.ok ns c → c.depth ≤ 1 → c.weight ≤ 200100 → CndAt K H' v c → Q v H'
section
variable {P : Program} {w : World} {K : PySem.W.Frag} {mg : Str → Option Value} {base : Heap}
variable {f_l_take f_l_one f_l_leaf : Addr} {fd_l_take fd_l_one fd_l_leaf : FuncData}
theorem ok_small {f : Addr} {fd : FuncData} (D : Def K mg "_law_small" s_l_small f fd ["_law_bag_here", "_law_names"]) (bi : Bi mg)
    (D_l_take : Def K mg "_law_take" s_l_take f_l_take fd_l_take ["_law_bag_here", "_law_many"])
    (G_l_take : FnOk P w K mg base CX0 1 f_l_take fd_l_take ["_law_bag_here", "_law_many"] spTake)
    (D_l_one : Def K mg "_law_one" s_l_one f_l_one fd_l_one ["_law_bag_here", "_law_things"])
    (G_l_one : FnOk P w K mg base CX0 2 f_l_one fd_l_one ["_law_bag_here", "_law_things"] (spOne K))
    (D_l_leaf : Def K mg "_law_leaf" s_l_leaf f_l_leaf fd_l_leaf ["_law_bag_here", "_law_names"])
    (G_l_leaf : FnOk P w K mg base CX0 5 f_l_leaf fd_l_leaf ["_law_bag_here", "_law_names"] (spTest K)) :
    FnOk P w K mg base CX0 6 f fd ["_law_bag_here", "_law_names"] (spSmall K) := by
  refine D.fn.ok sc_l_small (fun vs H Q E h => ?_) (fun cdv A outer s0 H vs Q E hr h => ?_)
  · obtain ⟨b, l, ns, rfl, _⟩ := h
    rfl
  · obtain ⟨b, l, ns, rfl, hb, hl, n0, n1, k⟩ := h
    refine ⟨_, (pss_cons (ps_par (i := 2) (j := 3) rfl sc_l_small.nd rfl rfl (by decide) rfl rfl (pa_cons (pe_call G_l_take (hr.mono (by first | decide | omega)) rfl D_l_take.mg D_l_take.fn.kp D_l_take.bd .nil pass0 (pa_cons (pv 0) (pa_cons pe_int pa_nil))) (pa_cons (pe_call G_l_leaf (hr.mono (by first | decide | omega)) rfl D_l_leaf.mg D_l_leaf.fn.kp D_l_leaf.bd .nil pass0 (pa_cons (pv 0) (pa_cons (pv 1) pa_nil))) pa_nil)) (by rfl))
  (pss_cons (ps_if (pt_cmpR op_eq (pv 2) pe_int (nomark _))
    (pss_one (ps_ret (pe_call G_l_one (hr.mono (by first | decide | omega)) rfl D_l_one.mg D_l_one.fn.kp D_l_one.bd .nil pass0 (pa_cons (pv 0) (pa_cons (pe_lst (pa_cons (pe_tup (pa_cons pe_str (pa_cons (pe_tup pa_nil) pa_nil))) (pa_cons (pe_tup (pa_cons pe_str (pa_cons (pe_tup pa_nil) pa_nil))) (pa_cons (pe_tup (pa_cons pe_str (pa_cons (pe_tup pa_nil) pa_nil))) (pa_cons (pe_tup (pa_cons pe_str (pa_cons (pe_tup pa_nil) (pa_cons (pv 3) pa_nil)))) (pa_cons (pe_tup (pa_cons pe_str (pa_cons (pe_tup pa_nil) (pa_cons (pv 3) pa_nil)))) pa_nil)))))) pa_nil)))))
    pss_nil)
  (pss_cons (ps_if (pt_cmpR op_eq (pv 2) pe_int (nomark _))
    (pss_one (ps_ret (pe_call G_l_one (hr.mono (by first | decide | omega)) rfl D_l_one.mg D_l_one.fn.kp D_l_one.bd .nil pass0 (pa_cons (pv 0) (pa_cons (pe_lst (pa_cons (pe_tup (pa_cons pe_str (pa_cons (pv 3) pa_nil))) (pa_cons (pe_tup (pa_cons pe_str (pa_cons (pv 3) pa_nil))) (pa_cons (pe_tup (pa_cons pe_str (pa_cons (pe_tup (pa_cons (pv 3) pa_nil)) pa_nil))) (pa_cons (pe_tup (pa_cons pe_str (pa_cons (pe_tup (pa_cons (pv 3) pa_nil)) pa_nil))) (pa_cons (pe_tup (pa_cons pe_str (pa_cons (pe_tup (pa_cons (pv 3) pa_nil)) pa_nil))) pa_nil)))))) pa_nil)))))
    pss_nil)
  (pss_one (ps_ret (pv 3)))))), ?_⟩
    refine ⟨_, rfl, b, 12, rfl, hb, by decide, by decide, fun way w0 w1 => ⟨_, rfl, _, rfl, b, l, ns, rfl, hb, hl, n0, n1, fun v lf H0 x0 hok hv => ⟨_, _, rfl, ?_⟩⟩⟩
    refine ⟨_, rfl, rfl, _, rfl, if_d (fun h0 => ?_) (fun h0 => ⟨_, rfl, rfl, _, rfl, if_d (fun h1 => ?_) (fun h1 => ?_)⟩)⟩
    · clear h0
      refine ⟨_, rfl, by decide, fun a1 n1 => ?_⟩
      have X_H1 : Ex H0 (upd H0 a1 (.tup [])) := Ex.new n1
      have F_H1 : upd H0 a1 (.tup []) a1 = some (.tup []) := upd_same
      generalize upd H0 a1 (.tup []) = H1 at X_H1 F_H1 ⊢
      refine ⟨sz2, fun a2 n2 => ?_⟩
      have X_H2 : Ex H1 (upd H1 a2 (.tup [.str "all", .ref a1])) := Ex.new n2
      have F_H2 : upd H1 a2 (.tup [.str "all", .ref a1]) a2 = some (.tup [.str "all", .ref a1]) := upd_same
      generalize upd H1 a2 (.tup [.str "all", .ref a1]) = H2 at X_H2 F_H2 ⊢
      refine ⟨by decide, fun a3 n3 => ?_⟩
      have X_H3 : Ex H2 (upd H2 a3 (.tup [])) := Ex.new n3
      have F_H3 : upd H2 a3 (.tup []) a3 = some (.tup []) := upd_same
      generalize upd H2 a3 (.tup []) = H3 at X_H3 F_H3 ⊢
      refine ⟨sz2, fun a4 n4 => ?_⟩
      have X_H4 : Ex H3 (upd H3 a4 (.tup [.str "any", .ref a3])) := Ex.new n4
      have F_H4 : upd H3 a4 (.tup [.str "any", .ref a3]) a4 = some (.tup [.str "any", .ref a3]) := upd_same
      generalize upd H3 a4 (.tup [.str "any", .ref a3]) = H4 at X_H4 F_H4 ⊢
      refine ⟨by decide, fun a5 n5 => ?_⟩
      have X_H5 : Ex H4 (upd H4 a5 (.tup [])) := Ex.new n5
      have F_H5 : upd H4 a5 (.tup []) a5 = some (.tup []) := upd_same
      generalize upd H4 a5 (.tup []) = H5 at X_H5 F_H5 ⊢
      refine ⟨sz2, fun a6 n6 => ?_⟩
      have X_H6 : Ex H5 (upd H5 a6 (.tup [.str "first", .ref a5])) := Ex.new n6
      have F_H6 : upd H5 a6 (.tup [.str "first", .ref a5]) a6 = some (.tup [.str "first", .ref a5]) := upd_same
      generalize upd H5 a6 (.tup [.str "first", .ref a5]) = H6 at X_H6 F_H6 ⊢
      refine ⟨by decide, fun a7 n7 => ?_⟩
      have X_H7 : Ex H6 (upd H6 a7 (.tup [])) := Ex.new n7
      have F_H7 : upd H6 a7 (.tup []) a7 = some (.tup []) := upd_same
      generalize upd H6 a7 (.tup []) = H7 at X_H7 F_H7 ⊢
      refine ⟨_, rfl, sz3, fun a8 n8 => ?_⟩
      have X_H8 : Ex H7 (upd H7 a8 (.tup [.str "case", .ref a7, v])) := Ex.new n8
      have F_H8 : upd H7 a8 (.tup [.str "case", .ref a7, v]) a8 = some (.tup [.str "case", .ref a7, v]) := upd_same
      generalize upd H7 a8 (.tup [.str "case", .ref a7, v]) = H8 at X_H8 F_H8 ⊢
      refine ⟨by decide, fun a9 n9 => ?_⟩
      have X_H9 : Ex H8 (upd H8 a9 (.tup [])) := Ex.new n9
      have F_H9 : upd H8 a9 (.tup []) a9 = some (.tup []) := upd_same
      generalize upd H8 a9 (.tup []) = H9 at X_H9 F_H9 ⊢
      refine ⟨_, rfl, sz3, fun a10 n10 => ?_⟩
      have X_H10 : Ex H9 (upd H9 a10 (.tup [.str "case", .ref a9, v])) := Ex.new n10
      have F_H10 : upd H9 a10 (.tup [.str "case", .ref a9, v]) a10 = some (.tup [.str "case", .ref a9, v]) := upd_same
      generalize upd H9 a10 (.tup [.str "case", .ref a9, v]) = H10 at X_H10 F_H10 ⊢
      refine ⟨sz5, fun p np => ?_⟩
      have X_HL : Ex H10 (upd H10 p (.lst [.ref a2, .ref a4, .ref a6, .ref a8, .ref a10])) := Ex.new np
      have F_HL : upd H10 p (.lst [.ref a2, .ref a4, .ref a6, .ref a8, .ref a10]) p = some (.lst [.ref a2, .ref a4, .ref a6, .ref a8, .ref a10]) := upd_same
      generalize upd H10 p (.lst [.ref a2, .ref a4, .ref a6, .ref a8, .ref a10]) = HL at X_HL F_HL ⊢
      have E10 := X_HL
      have E9 := X_H10.trans E10
      have E8 := X_H9.trans E9
      have E7 := X_H8.trans E8
      have E6 := X_H7.trans E7
      have E5 := X_H6.trans E6
      have E4 := X_H5.trans E5
      have E3 := X_H4.trans E4
      have E2 := X_H3.trans E3
      have E1 := X_H2.trans E2
      have E0 := X_H1.trans E1
      refine ⟨b, p, _, rfl, (hb.to x0).to E0, SqL.of F_HL, by show 0 < 5; decide, by show 5 < 100000; decide, fun x hx => ?_⟩
      simp only [List.mem_cons, List.not_mem_nil, or_false] at hx
      rcases hx with rfl | rfl | rfl | rfl | rfl
      · exact k _ (.node "all" []) _ (x0.trans E0) ⟨by decide +kernel, trivial⟩ (by simp [Cnd.depth, Cnd.depthL]) (by simp [Cnd.weight, Cnd.weightL]) ⟨a2, a1, [], rfl, SqT.of (E2 _ _ F_H2), SqT.of (E1 _ _ F_H1), rfl⟩
      · exact k _ (.node "any" []) _ (x0.trans E0) ⟨by decide +kernel, trivial⟩ (by simp [Cnd.depth, Cnd.depthL]) (by simp [Cnd.weight, Cnd.weightL]) ⟨a4, a3, [], rfl, SqT.of (E4 _ _ F_H4), SqT.of (E3 _ _ F_H3), rfl⟩
      · exact k _ (.node "first" []) _ (x0.trans E0) ⟨by decide +kernel, trivial⟩ (by simp [Cnd.depth, Cnd.depthL]) (by simp [Cnd.weight, Cnd.weightL]) ⟨a6, a5, [], rfl, SqT.of (E6 _ _ F_H6), SqT.of (E5 _ _ F_H5), rfl⟩
      · exact k _ (.case [] [] (.leaf lf)) _ (x0.trans E0) ⟨rfl, trivial, trivial, hok⟩ (by simp [Cnd.depth, Cnd.depthL]) (by simp [Cnd.weight, Cnd.weightL]) ⟨a8, a7, [], [], [], v, rfl, SqT.of (E8 _ _ F_H8), SqT.of (E7 _ _ F_H7), trivial, rfl, rfl, leafAt_toI (ExI.of E0) hv⟩
      · exact k _ (.case [] [] (.leaf lf)) _ (x0.trans E0) ⟨rfl, trivial, trivial, hok⟩ (by simp [Cnd.depth, Cnd.depthL]) (by simp [Cnd.weight, Cnd.weightL]) ⟨a10, a9, [], [], [], v, rfl, SqT.of (E10 _ _ F_H10), SqT.of (E9 _ _ F_H9), trivial, rfl, rfl, leafAt_toI (ExI.of E0) hv⟩
    · clear h0 h1
      refine ⟨_, rfl, _, rfl, sz2, fun a1 n1 => ?_⟩
      have X_H1 : Ex H0 (upd H0 a1 (.tup [.str "not", v])) := Ex.new n1
      have F_H1 : upd H0 a1 (.tup [.str "not", v]) a1 = some (.tup [.str "not", v]) := upd_same
      generalize upd H0 a1 (.tup [.str "not", v]) = H1 at X_H1 F_H1 ⊢
      refine ⟨_, rfl, sz2, fun a2 n2 => ?_⟩
      have X_H2 : Ex H1 (upd H1 a2 (.tup [.str "not", v])) := Ex.new n2
      have F_H2 : upd H1 a2 (.tup [.str "not", v]) a2 = some (.tup [.str "not", v]) := upd_same
      generalize upd H1 a2 (.tup [.str "not", v]) = H2 at X_H2 F_H2 ⊢
      refine ⟨_, rfl, sz1, fun a3 n3 => ?_⟩
      have X_H3 : Ex H2 (upd H2 a3 (.tup [v])) := Ex.new n3
      have F_H3 : upd H2 a3 (.tup [v]) a3 = some (.tup [v]) := upd_same
      generalize upd H2 a3 (.tup [v]) = H3 at X_H3 F_H3 ⊢
      refine ⟨sz2, fun a4 n4 => ?_⟩
      have X_H4 : Ex H3 (upd H3 a4 (.tup [.str "all", .ref a3])) := Ex.new n4
      have F_H4 : upd H3 a4 (.tup [.str "all", .ref a3]) a4 = some (.tup [.str "all", .ref a3]) := upd_same
      generalize upd H3 a4 (.tup [.str "all", .ref a3]) = H4 at X_H4 F_H4 ⊢
      refine ⟨_, rfl, sz1, fun a5 n5 => ?_⟩
      have X_H5 : Ex H4 (upd H4 a5 (.tup [v])) := Ex.new n5
      have F_H5 : upd H4 a5 (.tup [v]) a5 = some (.tup [v]) := upd_same
      generalize upd H4 a5 (.tup [v]) = H5 at X_H5 F_H5 ⊢
      refine ⟨sz2, fun a6 n6 => ?_⟩
      have X_H6 : Ex H5 (upd H5 a6 (.tup [.str "any", .ref a5])) := Ex.new n6
      have F_H6 : upd H5 a6 (.tup [.str "any", .ref a5]) a6 = some (.tup [.str "any", .ref a5]) := upd_same
      generalize upd H5 a6 (.tup [.str "any", .ref a5]) = H6 at X_H6 F_H6 ⊢
      refine ⟨_, rfl, sz1, fun a7 n7 => ?_⟩
      have X_H7 : Ex H6 (upd H6 a7 (.tup [v])) := Ex.new n7
      have F_H7 : upd H6 a7 (.tup [v]) a7 = some (.tup [v]) := upd_same
      generalize upd H6 a7 (.tup [v]) = H7 at X_H7 F_H7 ⊢
      refine ⟨sz2, fun a8 n8 => ?_⟩
      have X_H8 : Ex H7 (upd H7 a8 (.tup [.str "first", .ref a7])) := Ex.new n8
      have F_H8 : upd H7 a8 (.tup [.str "first", .ref a7]) a8 = some (.tup [.str "first", .ref a7]) := upd_same
      generalize upd H7 a8 (.tup [.str "first", .ref a7]) = H8 at X_H8 F_H8 ⊢
      refine ⟨sz5, fun p np => ?_⟩
      have X_HL : Ex H8 (upd H8 p (.lst [.ref a1, .ref a2, .ref a4, .ref a6, .ref a8])) := Ex.new np
      have F_HL : upd H8 p (.lst [.ref a1, .ref a2, .ref a4, .ref a6, .ref a8]) p = some (.lst [.ref a1, .ref a2, .ref a4, .ref a6, .ref a8]) := upd_same
      generalize upd H8 p (.lst [.ref a1, .ref a2, .ref a4, .ref a6, .ref a8]) = HL at X_HL F_HL ⊢
      have E8 := X_HL
      have E7 := X_H8.trans E8
      have E6 := X_H7.trans E7
      have E5 := X_H6.trans E6
      have E4 := X_H5.trans E5
      have E3 := X_H4.trans E4
      have E2 := X_H3.trans E3
      have E1 := X_H2.trans E2
      have E0 := X_H1.trans E1
      refine ⟨b, p, _, rfl, (hb.to x0).to E0, SqL.of F_HL, by show 0 < 5; decide, by show 5 < 100000; decide, fun x hx => ?_⟩
      simp only [List.mem_cons, List.not_mem_nil, or_false] at hx
      rcases hx with rfl | rfl | rfl | rfl | rfl
      · exact k _ (.not (.leaf lf)) _ (x0.trans E0) hok (by simp [Cnd.depth, Cnd.depthL]) (by simp [Cnd.weight, Cnd.weightL]) ⟨a1, v, rfl, SqT.of (E1 _ _ F_H1), leafAt_toI (ExI.of E0) hv⟩
      · exact k _ (.not (.leaf lf)) _ (x0.trans E0) hok (by simp [Cnd.depth, Cnd.depthL]) (by simp [Cnd.weight, Cnd.weightL]) ⟨a2, v, rfl, SqT.of (E2 _ _ F_H2), leafAt_toI (ExI.of E0) hv⟩
      · exact k _ (.node "all" [.leaf lf]) _ (x0.trans E0) ⟨by decide +kernel, hok, trivial⟩ (by simp [Cnd.depth, Cnd.depthL]) (by simp [Cnd.weight, Cnd.weightL]) ⟨a4, a3, [v], rfl, SqT.of (E4 _ _ F_H4), SqT.of (E3 _ _ F_H3), cnds_one (leafAt_toI (ExI.of E0) hv)⟩
      · exact k _ (.node "any" [.leaf lf]) _ (x0.trans E0) ⟨by decide +kernel, hok, trivial⟩ (by simp [Cnd.depth, Cnd.depthL]) (by simp [Cnd.weight, Cnd.weightL]) ⟨a6, a5, [v], rfl, SqT.of (E6 _ _ F_H6), SqT.of (E5 _ _ F_H5), cnds_one (leafAt_toI (ExI.of E0) hv)⟩
      · exact k _ (.node "first" [.leaf lf]) _ (x0.trans E0) ⟨by decide +kernel, hok, trivial⟩ (by simp [Cnd.depth, Cnd.depthL]) (by simp [Cnd.weight, Cnd.weightL]) ⟨a8, a7, [v], rfl, SqT.of (E8 _ _ F_H8), SqT.of (E7 _ _ F_H7), cnds_one (leafAt_toI (ExI.of E0) hv)⟩
    · exact ⟨_, rfl, k v (.leaf lf) _ x0 hok (Nat.zero_le 1) (by show 200000 ≤ 200100; decide) hv⟩
end
end K26

set_option Elab.async false
set_option linter.all false
set_option maxRecDepth 100000
set_option maxHeartbeats 4000000
namespace K26
open PySem PySem.Spec PyProof.Rows L2 Evl Gx
abbrev s_l_split : Stmt := topS 35
theorem sc_l_split : FnScope ["_law_bag_here", "_law_many", "_law_number_here", "_law_sizes", "_law_k"] ["_law_bag_here", "_law_many", "_law_number_here"] (defScope s_l_split) := ⟨rfl, rfl, rfl, by decide +kernel, rfl, by decide +kernel, by decide +kernel⟩
abbrev s_l_tree : Stmt := topS 36
theorem sc_l_tree : FnScope ["_law_bag_here", "_law_names", "_law_many", "_law_deep", "_law_way", "_law_number_here", "_law_some", "_law_size", "_law_at"] ["_law_bag_here", "_law_names", "_law_many", "_law_deep"] (defScope s_l_tree) := ⟨rfl, rfl, rfl, by decide +kernel, rfl, by decide +kernel, by decide +kernel⟩
abbrev nat (n : Nat) : V := .int (n : Int)
def spSplit : Sp := fun vs H Q _ => ∃ (b : Addr) (many num : Nat), vs = [.ref b, nat many, nat num] ∧ Bag H b ∧ 1 ≤ num ∧ num ≤ 5 ∧ num ≤ many ∧ many ≤ 1000 ∧
  ∀ l (sizes : List Nat) H', Ex H H' → H' l = some (.lst (sizes.map nat)) → sizes.length = num → (∀ s ∈ sizes, 1 ≤ s) → sizes.sum = many → Q (.ref l) H'
theorem sum_set : ∀ {l : List Nat} {j x : Nat}, l[j]? = some x → (l.set j (x + 1)).sum = l.sum + 1
  | [], j, x, h => by simp at h
  | a :: l, 0, x, h => by simp at h; subst h; simp; omega
  | a :: l, j + 1, x, h => by
    have := sum_set (l := l) (j := j) (x := x) (by simpa using h)
    simp [this]; omega
theorem set_map {l : List Nat} {j x : Nat} : (l.map nat).set j (.int ((x : Int) + 1)) = (l.set j (x + 1)).map nat := by
  rw [List.map_set]
  rfl
section
variable {P : Program} {w : World} {K : PySem.W.Frag} {mg : Str → Option Value} {base : Heap}
variable {f_l_take f_l_small f_l_split : Addr} {fd_l_take fd_l_small fd_l_split : FuncData}
theorem ok_split {f : Addr} {fd : FuncData} (D : Def K mg "_law_split" s_l_split f fd ["_law_bag_here", "_law_many", "_law_number_here"]) (bi : Bi mg)
    (D_l_take : Def K mg "_law_take" s_l_take f_l_take fd_l_take ["_law_bag_here", "_law_many"])
    (G_l_take : FnOk P w K mg base CX0 1 f_l_take fd_l_take ["_law_bag_here", "_law_many"] spTake) :
    FnOk P w K mg base CX0 2 f fd ["_law_bag_here", "_law_many", "_law_number_here"] spSplit := by
  refine D.fn.ok sc_l_split (fun vs H Q E h => ?_) (fun cdv A outer s0 H vs Q E hr h => ?_)
  · obtain ⟨b, many, num, rfl, _⟩ := h
    rfl
  · obtain ⟨b, many, num, rfl, hb, n1, n5, nm, mm, k⟩ := h
    refine ⟨_, (pss_cons (ps_set (i := 3) sc_l_split.nd rfl (Or.inl rfl) (pe_op op_repL (pe_lst (pa_cons pe_int pa_nil)) (pv 2)))
  (pss_cons (ps_for PassesOwn.never rfl (pi_range1 rfl bi.range (pa_cons (pe_op op_sub (pv 1) (pv 2)) pa_nil)) (pg_name (i := 4) sc_l_split.nd rfl (Or.inl rfl))
    (pss_one (ps_augS (pv 3) (pe_call G_l_take (hr.mono (by first | decide | omega)) rfl D_l_take.mg D_l_take.fn.kp D_l_take.bd .nil pass0 (pa_cons (pv 0) (pa_cons (pv 2) pa_nil))) get_list pe_int ip_add set_list)))
  (pss_one (ps_ret (pv 3))))), ?_⟩
    refine ⟨sz1, fun p np => ⟨_, rfl, p, num, [.int 1], rfl, rfl, SqL.of upd_same, by omega, by omega, by show 1 ≤ 100; decide, fun d nd => ?_⟩⟩
    have x1 := (Ex.new (o := .lst [.int 1]) np).trans (Ex.new (o := .lst (List.replicate (num : Int).toNat [.int 1]).flatten) nd)
    refine ⟨_, rfl, _, rfl, many, num, rfl, rfl, many - num, rfl, by omega, by omega, ?_⟩
    refine for_range (n := ((many : Int) - num).toNat) (fun i σ H' => ∃ x4 : Option V, σ = [some (.ref b), some (nat many), some (nat num), some (.ref d), x4] ∧ Ex H H' ∧
      ∃ sizes : List Nat, H' d = some (.lst (sizes.map nat)) ∧ sizes.length = num ∧ (∀ s ∈ sizes, 1 ≤ s) ∧ sizes.sum = num + i) ?_ ?_ ?_
    · refine ⟨none, rfl, x1, List.replicate num 1, ?_, by simp, fun s hs => by rw [List.eq_of_mem_replicate hs]; decide, by simp⟩
      rw [upd_same, Int.toNat_natCast]
      have e : ∀ n : Nat, (List.replicate n [V.int 1]).flatten = (List.replicate n 1).map nat := by
        intro n
        induction n with
        | zero => rfl
        | succ n ih => rw [List.replicate_succ, List.flatten_cons, ih, List.replicate_succ, List.map_cons]; rfl
      rw [e]
    · rintro i σ H' hi ⟨x4, rfl, e1, sizes, hd, hl, hs, hsum⟩
      refine ⟨_, rfl, _, rfl, _, rfl, b, num, rfl, hb.to e1, by omega, by omega, fun j j0 j1 => ?_⟩
      obtain ⟨s, hj, hm⟩ := get_of (xs := sizes) (i := j) j0 (by omega)
      have ndp : d ≠ p := fun e => by subst e; rw [upd_same] at nd; cases nd
      have nd0 : H d = none := by rw [upd_ne ndp] at nd; exact nd
      refine ⟨d, _, j, nat s, rfl, rfl, SqL.of hd, j0, by omega, by rw [List.getElem?_map, hj]; rfl, s, 1, rfl, rfl, d, _, j, j.toNat, rfl, rfl, hd, ?_, ?_⟩
      · rw [List.length_map]
        unfold ixN
        rw [if_pos j0, if_pos (by omega)]
      · refine ⟨_, rfl, e1.mut nd0, sizes.set j.toNat (s + 1), ?_, by simp [hl], fun z hz => ?_, by rw [sum_set hj, hsum]; omega⟩
        · rw [upd_same, set_map]
        · rcases List.mem_or_eq_of_mem_set hz with g | g
          · exact hs z g
          · omega
    · rintro σ H' ⟨x4, rfl, e1, sizes, hd, hl, hs, hsum⟩
      exact ⟨_, rfl, k d sizes H' e1 hd hl hs (by omega)⟩
end
end K26

set_option Elab.async false
set_option linter.all false
set_option maxRecDepth 100000
set_option maxHeartbeats 4000000
namespace K26
open PySem PySem.Spec PyProof.Rows L2 Evl Gx
/-- what a drawn condition of so many leaves and so deep may weigh -/
def W (deep : Nat) : Nat := 200100 + 100 * deep
def spTree (K : PySem.W.Frag) (n : Nat) : Sp := fun vs H Q _ => ∃ (b l : Addr) (ns : List Str) (many deep : Nat), vs = [.ref b, .ref l, nat many, nat deep] ∧ Bag H b ∧
  SqL K H l (ns.map V.str) ∧ 0 < ns.length ∧ ns.length ≤ 100 ∧ 1 ≤ many ∧ many ≤ 1000 ∧ deep < n ∧ deep ≤ 100 ∧
  ∀ v c H', Ex H H' → Cnd.ok ns c → c.depth ≤ deep + 1 → c.weight ≤ many * W deep → CndAt K H' v c → Q v H'
theorem fn_none {P : Program} {w : World} {K : PySem.W.Frag} {mg : Str → Option Value} {base : Heap} {CX : CXT} {k : Nat} {f : Addr} {fd : FuncData} {ps : List Str} {sp : Sp}
    (h : ∀ vs H Q E, ¬ sp vs H Q E) : FnOk P w K mg base CX k f fd ps sp :=
  ⟨fun vs H Q E z => (h vs H Q E z).elim, fun A o s H ar us vs Q E _ _ _ _ z => (h vs H Q E z).elim⟩
theorem weightL_app : ∀ (cs : List Cnd) (c : Cnd), Cnd.weightL (cs ++ [c]) = Cnd.weightL cs + c.weight + 20
  | [], c => by simp [Cnd.weightL]
  | a :: cs, c => by simp only [List.cons_append, Cnd.weightL, weightL_app cs c]; omega
theorem okL_app {ns : List Str} {cs : List Cnd} {c : Cnd} (h : Cnd.okL ns cs) (h' : c.ok ns) : Cnd.okL ns (cs ++ [c]) :=
  Cnd.okL_iff.mpr fun z hz => by
    rcases List.mem_append.mp hz with g | g
    · exact Cnd.okL_iff.mp h z g
    · rw [List.mem_singleton] at g; subst g; exact h'
theorem depthL_app {n : Nat} {cs : List Cnd} {c : Cnd} (h : Cnd.depthL cs ≤ n) (h' : c.depth ≤ n) : Cnd.depthL (cs ++ [c]) ≤ n :=
  Cnd.depthL_le.mpr fun z hz => by
    rcases List.mem_append.mp hz with g | g
    · exact Cnd.depthL_le.mp h z g
    · rw [List.mem_singleton] at g; subst g; exact h'
theorem sum_mem {l : List Nat} {x : Nat} (h : x ∈ l) : x ≤ l.sum := by
  induction l with
  | nil => cases h
  | cons a l ih =>
    rw [List.sum_cons]
    rcases List.mem_cons.mp h with rfl | g
    · omega
    · have := ih g; omega
theorem sum_take {l : List Nat} {j x : Nat} (h : l[j]? = some x) : (l.take (j + 1)).sum = (l.take j).sum + x := by
  rw [takeS h, List.sum_append]
  simp
section
variable {P : Program} {w : World} {K : PySem.W.Frag} {mg : Str → Option Value} {base : Heap}
variable {f_l_take f_l_small f_l_split : Addr} {fd_l_take fd_l_small fd_l_split : FuncData}
theorem ok_tree {f : Addr} {fd : FuncData} (D : Def K mg "_law_tree" s_l_tree f fd ["_law_bag_here", "_law_names", "_law_many", "_law_deep"]) (bi : Bi mg)
    (D_l_take : Def K mg "_law_take" s_l_take f_l_take fd_l_take ["_law_bag_here", "_law_many"])
    (G_l_take : FnOk P w K mg base CX0 1 f_l_take fd_l_take ["_law_bag_here", "_law_many"] spTake)
    (D_l_small : Def K mg "_law_small" s_l_small f_l_small fd_l_small ["_law_bag_here", "_law_names"])
    (G_l_small : FnOk P w K mg base CX0 6 f_l_small fd_l_small ["_law_bag_here", "_law_names"] (spSmall K))
    (D_l_split : Def K mg "_law_split" s_l_split f_l_split fd_l_split ["_law_bag_here", "_law_many", "_law_number_here"])
    (G_l_split : FnOk P w K mg base CX0 2 f_l_split fd_l_split ["_law_bag_here", "_law_many", "_law_number_here"] spSplit) :
    ∀ n : Nat, FnOk P w K mg base CX0 (6 + n) f fd ["_law_bag_here", "_law_names", "_law_many", "_law_deep"] (spTree K n)
  | 0 => fn_none fun vs H Q E ⟨_, _, _, _, _, _, _, _, _, _, _, _, h, _⟩ => absurd h (Nat.not_lt_zero _)
  | n + 1 => by
    show FnOk P w K mg base CX0 ((6 + n) + 1) f fd ["_law_bag_here", "_law_names", "_law_many", "_law_deep"] (spTree K (n + 1))
    have D_l_tree := D
    have G_l_tree := ok_tree D bi D_l_take G_l_take D_l_small G_l_small D_l_split G_l_split n
    refine D.fn.ok sc_l_tree (fun vs H Q E h => ?_) (fun cdv A outer s0 H vs Q E hr h => ?_)
    · obtain ⟨b, l, ns, many, deep, rfl, _⟩ := h
      rfl
    · obtain ⟨b, l, ns, many, deep, rfl, hb, hl, n0, n1, m0, m1, hdn, hd100, k⟩ := h
      refine ⟨_, (pss_cons (ps_if (L2.PW.pt (pw_or (pt_cmpR op_lt (pv 2) pe_int (nomark _)) (pw_or1 (pt_cmpR op_lt (pv 3) pe_int (nomark _)))))
    (pss_one (ps_ret (pe_call G_l_small (hr.mono (by first | decide | omega)) rfl D_l_small.mg D_l_small.fn.kp D_l_small.bd .nil pass0 (pa_cons (pv 0) (pa_cons (pv 1) pa_nil)))))
    pss_nil)
  (pss_cons (ps_par (i := 4) (j := 5) rfl sc_l_tree.nd rfl rfl (by decide) rfl rfl (pa_cons (pe_call G_l_take (hr.mono (by first | decide | omega)) rfl D_l_take.mg D_l_take.fn.kp D_l_take.bd .nil pass0 (pa_cons (pv 0) (pa_cons pe_int pa_nil))) (pa_cons (pe_op op_add pe_int (pe_call G_l_take (hr.mono (by first | decide | omega)) rfl D_l_take.mg D_l_take.fn.kp D_l_take.bd .nil pass0 (pa_cons (pv 0) (pa_cons (pe_op op_sub (pe_callB (call_min2 rfl) (by rfl) bi.min bt_min (pa_cons (pv 2) (pa_cons pe_int pa_nil))) pe_int) pa_nil)))) pa_nil)) (by rfl))
  (pss_cons (ps_if (pt_cmpR op_eq (pv 4) pe_int (nomark _))
    (pss_one (ps_ret (pe_tup (pa_cons pe_str (pa_cons (pe_call G_l_tree (hr.mono (by first | decide | omega)) rfl D_l_tree.mg D_l_tree.fn.kp D_l_tree.bd .nil pass0 (pa_cons (pv 0) (pa_cons (pv 1) (pa_cons (pv 2) (pa_cons (pe_op op_sub (pv 3) pe_int) pa_nil))))) pa_nil)))))
    pss_nil)
  (Evl.pss_cut (ps_if (L2.PW.pt (pw_and (pt_cmpR op_eq (pv 4) pe_int (nomark _)) (pw_and1 (pt_cmpR op_gt (pv 2) pe_int (nomark _)))))
    (pss_one (ps_set (i := 5) sc_l_tree.nd rfl (Or.inl rfl) (pe_op op_add pe_int (pe_op op_mul pe_int (pe_callTy call_int1 (by rfl) bi.int bt_int (pa_cons (pe_and (pe_cmpR op_gt (pv 2) pe_int (nomark _)) (pe_one (pe_cmpR op_gt (pv 5) pe_int (nomark _)))) pa_nil))))))
    pss_nil)
  (pss_cons (ps_set (i := 6) sc_l_tree.nd rfl (Or.inr rfl) (pe_lc (own := [("_law_size", 7)]) rfl sc_l_tree.nd (pi_list (pe_call G_l_split (hr.mono (by first | decide | omega)) rfl D_l_split.mg D_l_split.fn.kp D_l_split.bd .nil pass0 (pa_cons (pv 0) (pa_cons (pv 2) (pa_cons (pv 5) pa_nil))))) (blkOk_by (N := ["_law_bag_here", "_law_names", "_law_many", "_law_deep", "_law_way", "_law_number_here", "_law_some", "_law_size", "_law_at"]) (sc := defScope s_l_tree) (by decide +kernel)) (fun _ _ _ _ _ => (pg_name (i := 7) sc_l_tree.nd rfl (Or.inl rfl))) (fun _ _ _ _ _ => pts_nil) (fun _ _ _ _ _ => (pe_call G_l_tree (hr.mono (by first | decide | omega)) rfl D_l_tree.mg D_l_tree.fn.kp D_l_tree.bd .nil pass0 (pa_cons (pv 0) (pa_cons (pv 1) (pa_cons (pv 7) (pa_cons (pe_op op_sub (pv 3) pe_int) pa_nil))))))))
  (pss_cons (ps_if (L2.PW.pt (pw_and (pt_cmpR op_eq (pv 4) pe_int (nomark _)) (pw_and1 (pt_cmpR op_gt (pv 2) pe_int (nomark _)))))
    (pss_one (ps_ret (pe_tup (pa_cons pe_str (pa_cons (pe_callTy call_tupX (by rfl) bi.tuple bt_tuple (pa_cons (pe_lc (own := [("_law_at", 8)]) rfl sc_l_tree.nd (pi_range1 rfl bi.range (pa_cons (pe_op op_fdiv (pv 5) pe_int) pa_nil)) (blkOk_by (N := ["_law_bag_here", "_law_names", "_law_many", "_law_deep", "_law_way", "_law_number_here", "_law_some", "_law_size", "_law_at"]) (sc := defScope s_l_tree) (by decide +kernel)) (fun _ _ _ _ _ => (pg_name (i := 8) sc_l_tree.nd rfl (Or.inl rfl))) (fun _ _ _ _ _ => pts_nil) (fun _ _ _ _ _ => (pe_tup (pa_cons (pe_ix (ix_listK (K := K) rfl) (pv 6) (pe_op op_mul pe_int (pv 8)) (fun _ _ => rfl)) (pa_cons (pe_ix (ix_listK (K := K) rfl) (pv 6) (pe_op op_add (pe_op op_mul pe_int (pv 8)) pe_int) (fun _ _ => rfl)) pa_nil))))) pa_nil)) (pa_cons (pe_ix ix_list (pv 6) (pe_un un_neg pe_int) (fun _ _ => rfl)) pa_nil))))))
    pss_nil)
  (pss_one (ps_ret (pe_tup (pa_cons (pe_ifExp (pt_cmpR op_lt (pv 4) pe_int (nomark _)) pe_str (pe_ix ix_list (pe_lst (pa_cons pe_str (pa_cons pe_str pa_nil))) (pe_op op_mod (pe_callTy call_int1 (by rfl) bi.int bt_int (pa_cons (pv 4) pa_nil)) pe_int) (fun _ _ => rfl))) (pa_cons (pe_callTy call_tupX (by rfl) bi.tuple bt_tuple (pa_cons (pv 6) pa_nil)) pa_nil))))))))))), ?_⟩
      have tiny : ∀ (Q' : VK), (∀ v H', Q v H' → Q' v H') → ∃ (b' l' : Addr) (ns' : List Str), [V.ref b, .ref l] = [.ref b', .ref l'] ∧ Bag H b' ∧ SqL K H l' (ns'.map V.str) ∧
          0 < ns'.length ∧ ns'.length ≤ 100 ∧ ∀ v c H', Ex H H' → Cnd.ok ns' c → c.depth ≤ 1 → c.weight ≤ 200100 → CndAt K H' v c → Q' v H' := fun Q' hq =>
        ⟨b, l, ns, rfl, hb, hl, n0, n1, fun v c H' x ok dp wt hv => hq _ _ (k v c H' x ok (by omega) (Nat.le_trans wt (Nat.le_trans (by unfold W; omega) (Nat.mul_le_mul_right (W deep) m0))) hv)⟩
      refine ⟨_, rfl, many, 2, rfl, rfl, _, rfl, if_d (fun h2 => ?_) (fun h2 => ⟨_, rfl, deep, 1, rfl, rfl, _, rfl, if_d (fun h3 => ?_) (fun h3 => ?_)⟩)⟩
      · exact ⟨_, rfl, _, rfl, tiny _ fun _ _ q => q⟩
      · exact ⟨_, rfl, _, rfl, tiny _ fun _ _ q => q⟩
      have mm : 2 ≤ many := by omega
      have d1 : 1 ≤ deep := by omega
      have ed : ((deep : Nat) : Int) - 1 = ((deep - 1 : Nat) : Int) := by omega
      refine ⟨_, rfl, b, 9, rfl, hb, by decide, by decide, fun way w0 w1 => ?_⟩
      refine ⟨_, rfl, _, rfl, many, 5, rfl, _, 1, rfl, rfl, b, _, rfl, hb, ?_, ?_, fun y y0 y1 => ⟨2, y, rfl, rfl, _, _, rfl, ?_⟩⟩
      · split <;> omega
      · split <;> omega
      have hy : ∃ num : Nat, (2 : Int) + y = num ∧ 2 ≤ num ∧ num ≤ 5 ∧ num ≤ many := by
        refine ⟨(2 + y).toNat, by omega, by omega, ?_, ?_⟩ <;> split at y1 <;> omega
      obtain ⟨num, ey, num2, num5, numm⟩ := hy
      refine ⟨_, rfl, rfl, _, rfl, if_d (fun hw => ?_) (fun hw => ?_)⟩
      · refine ⟨_, rfl, _, rfl, _, rfl, _, rfl, deep, 1, rfl, rfl, b, l, ns, many, deep - 1, congrArg (fun z => [V.ref b, .ref l, nat many, .int z]) ed, hb, hl, n0, n1, m0, m1, by omega, by omega, fun v c H' x ok dp wt hv => ⟨sz2, fun t nt => ?_⟩⟩
        · refine k _ (.not c) _ (ex_upd x nt) ok ?_ ?_ ⟨t, v, rfl, SqT.of upd_same, hv.to (Ex.new nt)⟩
          · show c.depth + 1 ≤ deep + 1
            omega
          · show c.weight + 40 ≤ many * W deep
            have e : W deep = W (deep - 1) + 100 := by unfold W; omega
            rw [e, Nat.mul_add]
            omega
      · refine ⟨fun σ H' => ∃ num : Nat, σ = [some (.ref b), some (.ref l), some (nat many), some (nat deep), some (.int way), some (nat num), none, none, none] ∧ H' = H ∧
          2 ≤ num ∧ num ≤ 5 ∧ num ≤ many ∧ (way = 1 → 2 < many → num = 3 ∨ num = 5), ?_, fun σ H1 m => ?_⟩
        · refine ⟨_, rfl, rfl, _, rfl, if_d (fun hw1 => ?_) (fun hw1 => ?_)⟩
          · refine ⟨_, rfl, many, 2, rfl, rfl, _, rfl, if_d (fun hm => ?_) (fun hm => ?_)⟩
            · refine ⟨_, rfl, many, 4, rfl, rfl, _, rfl, if_d (fun h4 => ⟨_, rfl, _, 3, rfl, rfl, ?_⟩) (fun h4 => ?_)⟩
              · refine .inr ⟨_, rfl, 2, _, rfl, rfl, .inl ⟨by decide, by decide⟩, 3, _, rfl, rfl, ?_⟩
                have e : (3 : Int) + 2 * (if decide ((3 : Int) < 2 + y) = true then 1 else 0) = ((if (3 : Int) < 2 + y then 5 else 3 : Nat) : Int) := by
                  by_cases h : (3 : Int) < 2 + y
                  · rw [if_pos (decide_eq_true h), if_pos h]; rfl
                  · rw [if_neg (by rw [decide_eq_false h]; decide), if_neg h]; rfl
                exact ⟨_, congrArg (fun z : Int => [some (V.ref b), some (.ref l), some (nat many), some (nat deep), some (.int way), some (.int z), none, none, none]) e, rfl,
                  by split <;> omega, by split <;> omega, by split <;> omega, fun _ _ => by split; exact .inr rfl; exact .inl rfl⟩
              · refine .inr ⟨_, rfl, 2, _, rfl, rfl, .inl ⟨by decide, by decide⟩, 3, _, rfl, rfl, ?_⟩
                exact ⟨3, rfl, rfl, by decide, by decide, by omega, fun _ _ => .inl rfl⟩
            · exact ⟨num, congrArg (fun z : Int => [some (V.ref b), some (.ref l), some (nat many), some (nat deep), some (.int way), some (.int z), none, none, none]) ey, rfl, num2, num5, numm, fun _ h => absurd (by omega) hm⟩
          · exact ⟨num, congrArg (fun z : Int => [some (V.ref b), some (.ref l), some (nat many), some (nat deep), some (.int way), some (.int z), none, none, none]) ey, rfl, num2, num5, numm, fun h _ => absurd (by rw [h]) hw1⟩
        · obtain ⟨num, rfl, rfl, num2, num5, numm, hodd⟩ := m
          -- the parts
          refine ⟨_, rfl, _, rfl, _, rfl, b, many, num, rfl, hb, by omega, num5, numm, m1, fun sl sizes H1 e1 hsl hsn hs1 hsum => ?_⟩
          refine ⟨sl, rfl, ⟨_, SqL.of hsl⟩, fun d nd => lc_list (xs := sizes.map nat) (fun j H' => Ex H1 H' ∧ ∃ (xs : List V) (cs : List Cnd), H' d = some (.lst xs) ∧ cs.length = j ∧ CndsAt K H' xs cs ∧
            Cnd.okL ns cs ∧ Cnd.depthL cs ≤ deep ∧ Cnd.weightL cs ≤ (sizes.take j).sum * W (deep - 1) + 20 * j) ?_ (fun j H' _ q => SqL.of (q.1 _ _ hsl)) ?_ ?_⟩
          · exact ⟨Ex.new nd, [], [], upd_same, rfl, rfl, trivial, Nat.zero_le _, Nat.zero_le _⟩
          · rintro j z H' hj ⟨e2, xs, cs, hd, hcl, hcs, hok, hdp, hwt⟩
            obtain ⟨s, hsj, rfl⟩ : ∃ s, sizes[j]? = some s ∧ z = nat s := by
              rw [List.getElem?_map] at hj
              obtain ⟨s, h1, h2⟩ := Option.map_eq_some_iff.mp hj
              exact ⟨s, h1, h2.symm⟩
            have jl : j < sizes.length := (List.getElem?_eq_some_iff.mp hsj).1
            have sm : s ≤ sizes.sum := sum_mem (List.mem_of_getElem? hsj)
            have x12 := e1.trans e2
            refine ⟨rfl, _, rfl, _, rfl, _, rfl, _, rfl, deep, 1, rfl, rfl, b, l, ns, s, deep - 1, congrArg (fun z => [V.ref b, .ref l, nat s, .int z]) ed, hb.to x12, ?_, n0, n1, hs1 s (List.mem_of_getElem? hsj), by omega, by omega, by omega, fun v c H2 e3 ok dp wt hv => ?_⟩
            · exact ex_l x12 hl
            · have ei : ExI H2 (upd H2 d (.lst (xs ++ [v]))) := ExI.put (e3 _ _ hd) rfl
              refine ⟨xs, e3 _ _ hd, small (by have := cnds_len hcs; omega), (e2.trans e3).mut nd, xs ++ [v], cs ++ [c], upd_same, by simp [hcl],
                cnds_app (cndsAt_toI ei _ _ (hcs.to e3)) (cnds_one (cndAt_toI ei _ _ hv)), okL_app hok ok, depthL_app hdp (by omega), ?_⟩
              rw [weightL_app, sum_take hsj, Nat.add_mul]
              omega
          · rintro H2 ⟨e2, xs, cs, hd, hcl, hcs, hok, hdp, hwt⟩
            rw [List.length_map] at hcl
            rw [List.length_map, List.take_length, hsum, hsn] at hwt
            have xl := cnds_len hcs
            have x12 := e1.trans e2
            have wgt : many * W (deep - 1) + 20 * num + 40 ≤ many * W deep := by
              have e : W deep = W (deep - 1) + 100 := by unfold W; omega
              rw [e, Nat.mul_add]
              omega
            -- a node of the parts
            have node : ∀ (kd : Str) (H3 : Hp), kd ∈ kinds → Ex H2 H3 → ∀ v ws, SqT K H3 v [.str kd, .ref ws] → SqT K H3 ws xs → Q (.ref v) H3 := fun kd H3 hk e3 v ws h1 h2 =>
              k _ (.node kd cs) _ (x12.trans e3) ⟨hk, hok⟩ (by show Cnd.depthL cs + 1 ≤ deep + 1; omega) (by show Cnd.weightL cs + 40 ≤ _; omega) ⟨v, ws, xs, rfl, h1, h2, hcs.to e3⟩
            refine ⟨_, rfl, rfl, _, rfl, if_d (fun hw1 => ⟨_, rfl, many, 2, rfl, rfl, _, rfl, if_d (fun hm => ?_) (fun hm => ?_)⟩) (fun hw1 => ?_)⟩
            · have hn := hodd (V.int.inj hw1) (by omega)
              refine ⟨_, rfl, num, 2, rfl, rfl, ⟨by decide, by decide⟩, (num : Int) / 2, rfl, by omega, by omega, fun d2 nd2 => ?_⟩
              have em : ((num : Int) / 2).toNat = num / 2 := by omega
              refine lc_range (lo := 0) (n := ((num : Int) / 2).toNat) (fun j H' => Ex H2 H' ∧ ∃ qs : List Addr, H' d2 = some (.lst (qs.map V.ref)) ∧ qs.length = j ∧
                ∀ i, i < j → ∃ q x y, qs[i]? = some q ∧ xs[2 * i]? = some x ∧ xs[2 * i + 1]? = some y ∧ SqT K H' q [x, y]) ?_ ?_ ?_
              · exact ⟨Ex.new nd2, [], upd_same, rfl, fun i hi => absurd hi (Nat.not_lt_zero i)⟩
              · rintro j H' hj ⟨e3, qs, hq, hql, hall⟩
                rw [em] at hj
                have j1 : 2 * j + 1 < xs.length := by omega
                have d' := e3 _ _ hd
                have i0 : atI xs (2 * (0 + (j : Int))) = some xs[2 * j] := by
                  rw [show 2 * (0 + (j : Int)) = ((2 * j : Nat) : Int) by omega]
                  exact atI_of (by omega) (by rw [Int.toNat_natCast]; exact List.getElem?_eq_getElem (by omega))
                have i1 : atI xs (2 * (0 + (j : Int)) + 1) = some xs[2 * j + 1] := by
                  rw [show 2 * (0 + (j : Int)) + 1 = ((2 * j + 1 : Nat) : Int) by omega]
                  exact atI_of (by omega) (by rw [Int.toNat_natCast]; exact List.getElem?_eq_getElem (by omega))
                refine ⟨rfl, _, rfl, _, rfl, 2, _, rfl, rfl, .inl ⟨by decide, by decide⟩, d, xs, _, _, rfl, rfl, SqL.of d', i0, _, rfl, _, rfl, 2, _, rfl, rfl, .inl ⟨by decide, by decide⟩, _, 1, rfl, rfl, d, xs, _, _, rfl, rfl, SqL.of d', i1, sz2, fun q nq => ?_⟩
                have e4 := Ex.new (o := .tup [xs[2 * j], xs[2 * j + 1]]) nq
                have hq4 := e4 _ _ hq
                have ei : ExI (upd H' q (.tup [xs[2 * j], xs[2 * j + 1]])) (upd (upd H' q (.tup [xs[2 * j], xs[2 * j + 1]])) d2 (.lst (qs.map V.ref ++ [.ref q]))) := ExI.put hq4 rfl
                refine ⟨qs.map V.ref, hq4, small (by rw [List.length_map]; omega), (e3.trans e4).mut nd2, qs ++ [q], by rw [upd_same, List.map_append]; rfl, by simp [hql], fun i hi => ?_⟩
                by_cases hij : i < j
                · obtain ⟨q', x, y, g1, g2, g3, g4⟩ := hall i hij
                  exact ⟨q', x, y, by rw [List.getElem?_append_left (by omega)]; exact g1, g2, g3, ei.sq (ex_t e4 g4)⟩
                · have : i = j := by omega
                  subst this
                  exact ⟨q, xs[2 * i], xs[2 * i + 1], by rw [List.getElem?_append_right (by omega), hql]; simp, List.getElem?_eq_getElem (by omega), List.getElem?_eq_getElem (by omega), ei.sq (SqT.of upd_same)⟩
              · rintro H4 ⟨e3, qs, hq, hql, hall⟩
                rw [em] at hql hall
                obtain ⟨z, hz⟩ : ∃ z, xs[num - 1]? = some z := ⟨xs[num - 1]'(by omega), List.getElem?_eq_getElem (by omega)⟩
                obtain ⟨el, hel, hza⟩ := cnds_get hcs hz
                refine ⟨d2, _, rfl, SqL.of hq, fun t H5 nt e5 ht => ⟨_, rfl, 1, rfl, d, xs, -1, z, rfl, rfl, SqL.of (e5 _ _ (e3 _ _ hd)), ?_, sz3, fun v nv => ?_⟩⟩
                · rw [atI_last (n := num - 1) (by omega)]; exact hz
                · have e6 := e5.trans (Ex.new (o := .tup [.str "case", .ref t, z]) nv)
                  have e46 := e3.trans e6
                  obtain ⟨ce, co⟩ := cnds_ev (m := num / 2) (hcs.to e46) (by omega)
                  obtain ⟨l1, l2⟩ := len_ev (m := num / 2) (l := cs) (by omega)
                  have wv := weight_ev (m := num / 2) hel (by omega)
                  have dv := depthL_ev (m := num / 2) hdp
                  have dm := Cnd.depthL_le.mp hdp el (List.mem_of_getElem? hel)
                  refine k _ (.case (ev (num / 2) cs) (od (num / 2) cs) el) _ (x12.trans e46) ⟨by rw [l1, l2], (okL_ev hok).1, (okL_ev hok).2, Cnd.okL_iff.mp hok el (List.mem_of_getElem? hel)⟩ ?_ ?_
                    ⟨v, t, qs, ev (num / 2) xs, od (num / 2) xs, z, rfl, SqT.of upd_same, (ht.to (Ex.new nv)).sq, ?_, ce, co, hza.to e46⟩
                  · show max (max _ _) _ + 1 ≤ deep + 1
                    omega
                  · show Cnd.weightL _ + Cnd.weightL _ + el.weight + 40 ≤ _
                    omega
                  · exact zip_ev hql (by omega) fun i hi => by
                      obtain ⟨q', x, y, g1, g2, g3, g4⟩ := hall i hi
                      exact ⟨q', x, y, g1, g2, g3, ex_t e6 g4⟩
            all_goals
              refine ⟨_, rfl, way, 3, rfl, rfl, _, rfl, if_d (fun h3 => ?_) (fun h3 => ?_)⟩
              · refine ⟨_, rfl, d, xs, rfl, SqL.of hd, fun t H3 nt e3 ht => ⟨sz2, fun v nv => ?_⟩⟩
                exact node "first" _ (by decide +kernel) (e3.trans (Ex.new nv)) v t (SqT.of upd_same) (ht.to (Ex.new nv)).sq
              · refine ⟨sz2, fun p np => ?_⟩
                have e3 := Ex.new (o := .lst [.str "all", .str "any"]) np
                have hw2 : ∃ kd ∈ kinds, atI [V.str "all", .str "any"] (way % 2) = some (.str kd) := by
                  rcases (by omega : way % 2 = 0 ∨ way % 2 = 1) with h | h
                  · rw [h]; exact ⟨"all", by decide +kernel, rfl⟩
                  · rw [h]; exact ⟨"any", by decide +kernel, rfl⟩
                obtain ⟨kd, hk, hat⟩ := hw2
                refine ⟨_, rfl, .inl ⟨way, rfl, way, 2, rfl, rfl, (by show (0 : Int) < 2; decide), p, _, way % 2, .str kd, rfl, rfl, SqL.of upd_same, hat, ?_⟩⟩
                refine ⟨_, rfl, d, xs, rfl, SqL.of (e3 _ _ hd), fun t H3 nt e4 ht => ⟨sz2, fun v nv => ?_⟩⟩
                exact node kd _ hk ((e3.trans e4).trans (Ex.new nv)) v t (SqT.of upd_same) (ht.to (Ex.new nv)).sq
end
end K26

set_option Elab.async false
set_option linter.all false
set_option maxRecDepth 100000
set_option maxHeartbeats 4000000
namespace Gx
open PySem PySem.Spec PyProof.Rows L2 Evl
/-! What conditions answer at a row, leaf by leaf, and what they answer when turned about. -/
def exch (w : Str) : Str := if w = "yes" then "no" else if w = "no" then "yes" else w
def agreesB (m : Int) (sg : Str) (k : Int) : Bool :=
  if m < k then decide (sg ∈ (["<", "<=", "<>"] : List Str)) else if m > k then decide (sg ∈ (["<>", ">", ">="] : List Str)) else decide (sg ∈ (["<=", "=", ">="] : List Str))
def numV : V → Str
  | .non => "unknown"
  | .int _ => "yes"
  | _ => "no"
def askV (ss : List Stp) (sg : Str) (k : Int) : V → Str
  | .non => "unknown"
  | .int i => match leadAll ss i with
    | some m => if agreesB m sg k = true then "yes" else "no"
    | none => "error"
  | _ => "error"
def leafAns (R : Str → V) : Leaf → Str
  | .always w => w
  | .empty n => if R n = .non then "yes" else "no"
  | .number n => numV (R n)
  | .asks n ss sg k => askV ss sg k (R n)
theorem askV_some {ss : List Stp} {sg : Str} {k i m : Int} (h : leadAll ss i = some m) : askV ss sg k (.int i) = (if agreesB m sg k = true then ("yes" : Str) else "no") := by
  show (match leadAll ss i with | some m => if agreesB m sg k = true then ("yes" : Str) else "no" | none => "error") = _
  rw [h]
theorem askV_none {ss : List Stp} {sg : Str} {k i : Int} (h : leadAll ss i = none) : askV ss sg k (.int i) = "error" := by
  show (match leadAll ss i with | some m => if agreesB m sg k = true then ("yes" : Str) else "no" | none => "error") = _
  rw [h]
abbrev Res := Str × List PyData
def allOf (dec : Str) : Str → List Res → Res
  | found, [] => (found, [])
  | found, r :: rs => if r.1 = "error" ∨ r.1 = dec then r else
      ((allOf dec (if r.1 = "unknown" then r.1 else found) rs).1, r.2 ++ (allOf dec (if r.1 = "unknown" then r.1 else found) rs).2)
def firstOf : List Res → Res
  | [] => ("unknown", [])
  | r :: rs => if r.1 = "unknown" then ((firstOf rs).1, r.2 ++ (firstOf rs).2) else r
def caseOf : List Res → List Res → Res → Res
  | r :: rs, t :: ts, e => if r.1 = "error" then r else if r.1 = "yes" then (t.1, r.2 ++ t.2) else ((caseOf rs ts e).1, r.2 ++ (caseOf rs ts e).2)
  | _, _, e => e
def nodeOf (k : Str) (rs : List Res) : Res := if k = "first" then firstOf rs else if k = "all" then allOf "no" "yes" rs else allOf "yes" "no" rs
def entry (adr : List Int) (w : Str) : PyData := .tuple [.tuple (adr.map PyData.int), .str w]
mutual
def run (R : Str → V) : List Int → Cnd → Res
  | adr, .leaf l => (leafAns R l, [entry adr (leafAns R l)])
  | adr, .not c => (exch (run R (adr ++ [0]) c).1, (run R (adr ++ [0]) c).2)
  | adr, .node k cs => nodeOf k (runL R adr 0 1 cs)
  | adr, .case ws ts e => caseOf (runL R adr 0 2 ws) (runL R adr 1 2 ts) (run R (adr ++ [2 * (ws.length : Int)]) e)
def runL (R : Str → V) : List Int → Int → Int → List Cnd → List Res
  | _, _, _, [] => []
  | adr, i, st, c :: cs => run R (adr ++ [i]) c :: runL R adr (i + st) st cs
end
def turnK (k : Str) : Str := if k = "first" then "first" else if k = "all" then "any" else "all"
def Leaf.turn : Leaf → Cnd
  | .always w => .leaf (.always (exch w))
  | l => .not (.leaf l)
mutual
def Cnd.turn : Cnd → Cnd
  | .leaf l => l.turn
  | .not c => c
  | .node k cs => .node (turnK k) (Cnd.turnL cs)
  | .case ws ts e => .case ws (Cnd.turnL ts) e.turn
def Cnd.turnL : List Cnd → List Cnd
  | [] => []
  | c :: cs => c.turn :: Cnd.turnL cs
end
theorem Cnd.turnL_map : ∀ cs : List Cnd, Cnd.turnL cs = cs.map Cnd.turn
  | [] => rfl
  | c :: cs => by rw [Cnd.turnL, Cnd.turnL_map cs]; rfl
/-! ### answers by another naming -/
structure Ren (f : Str → Str) : Prop where
  inj : ∀ x y, f x = f y → x = y
  err : f "error" = "error"
  unk : f "unknown" = "unknown"
structure Sim (f : Str → Str) (r r' : Res) : Prop where
  ans : r'.1 = f r.1
  len : r'.2.length = r.2.length
theorem exch_exch (w : Str) : exch (exch w) = w := by
  unfold exch
  by_cases h1 : w = "yes"
  · subst h1; decide +kernel
  · by_cases h2 : w = "no"
    · subst h2; decide +kernel
    · rw [if_neg h1, if_neg h2, if_neg h1, if_neg h2]
theorem ren_exch : Ren exch := ⟨fun x y h => by have := congrArg exch h; rwa [exch_exch, exch_exch] at this, by decide +kernel, by decide +kernel⟩
theorem ren_id : Ren id := ⟨fun _ _ h => h, rfl, rfl⟩
theorem Ren.iff {f : Str → Str} (F : Ren f) {x y : Str} : f x = f y ↔ x = y := ⟨F.inj x y, fun h => by rw [h]⟩
theorem Ren.erri {f : Str → Str} (F : Ren f) {x : Str} : f x = "error" ↔ x = "error" := by rw [← F.iff (x := x), F.err]
theorem Ren.unki {f : Str → Str} (F : Ren f) {x : Str} : f x = "unknown" ↔ x = "unknown" := by rw [← F.iff (x := x), F.unk]
inductive Sims (f : Str → Str) : List Res → List Res → Prop
  | nil : Sims f [] []
  | cons {r r' : Res} {rs rs' : List Res} : Sim f r r' → Sims f rs rs' → Sims f (r :: rs) (r' :: rs')
theorem allOf_sim {f : Str → Str} (F : Ren f) {dec : Str} {rs rs' : List Res} (h : Sims f rs rs') : ∀ found, Sim f (allOf dec found rs) (allOf (f dec) (f found) rs') := by
  induction h with
  | nil => intro found; exact ⟨rfl, rfl⟩
  | @cons r r' rs rs' h1 h2 ih =>
    intro found
    unfold allOf
    rw [h1.ans]
    by_cases c : r.1 = "error" ∨ r.1 = dec
    · rw [if_pos c, if_pos (c.imp F.erri.mpr F.iff.mpr)]
      exact ⟨h1.ans, h1.len⟩
    · rw [if_neg c, if_neg (show ¬ (f r.1 = "error" ∨ f r.1 = f dec) from fun e => c (e.imp F.erri.mp F.iff.mp))]
      have e : (if f r.1 = "unknown" then f r.1 else f found) = f (if r.1 = "unknown" then r.1 else found) := by
        by_cases u : r.1 = "unknown"
        · rw [if_pos u, if_pos (F.unki.mpr u)]
        · rw [if_neg u, if_neg (fun z => u (F.unki.mp z))]
      rw [e]
      have := ih (if r.1 = "unknown" then r.1 else found)
      exact ⟨this.ans, by simp only [List.length_append, h1.len, this.len]⟩
theorem firstOf_sim {f : Str → Str} (F : Ren f) {rs rs' : List Res} (h : Sims f rs rs') : Sim f (firstOf rs) (firstOf rs') := by
  induction h with
  | nil => exact ⟨F.unk.symm, rfl⟩
  | @cons r r' rs rs' h1 h2 ih =>
    unfold firstOf
    rw [h1.ans]
    by_cases c : r.1 = "unknown"
    · rw [if_pos c, if_pos (F.unki.mpr c)]
      exact ⟨ih.ans, by simp only [List.length_append, h1.len, ih.len]⟩
    · rw [if_neg c, if_neg (fun z => c (F.unki.mp z))]
      exact ⟨h1.ans, h1.len⟩
theorem caseOf_sim {f : Str → Str} {rs rs' : List Res} (h : Sims id rs rs') : ∀ {ts ts' : List Res} {e e' : Res}, Sims f ts ts' → Sim f e e' → (f "error" = "error") →
    Sim f (caseOf rs ts e) (caseOf rs' ts' e') := by
  induction h with
  | nil => intro ts ts' e e' _ he _; unfold caseOf; exact he
  | @cons r r' rs rs' h1 h2 ih =>
    intro ts ts' e e' ht he fe
    cases ht with
    | nil => exact he
    | @cons t t' ts ts' t1 t2 =>
      unfold caseOf
      have a : r'.1 = r.1 := h1.ans
      rw [a]
      by_cases c : r.1 = "error"
      · rw [if_pos c, if_pos c]; exact ⟨by rw [a, c, fe], h1.len⟩
      · rw [if_neg c, if_neg c]
        by_cases y : r.1 = "yes"
        · rw [if_pos y, if_pos y]; exact ⟨t1.ans, by simp only [List.length_append, h1.len, t1.len]⟩
        · rw [if_neg y, if_neg y]
          have := ih t2 he fe
          exact ⟨this.ans, by simp only [List.length_append, h1.len, this.len]⟩
mutual
theorem run_adr (R : Str → V) : ∀ (c : Cnd) (a a' : List Int), Sim id (run R a c) (run R a' c)
  | .leaf l, a, a' => by simp only [run]; exact ⟨rfl, rfl⟩
  | .not c, a, a' => by
    have := run_adr R c (a ++ [0]) (a' ++ [0])
    simp only [run]
    exact ⟨by show exch _ = exch _; rw [this.ans]; rfl, this.len⟩
  | .node k cs, a, a' => by
    have := runL_adr R cs a a' 0 0 1 1
    simp only [run]
    unfold nodeOf
    by_cases h1 : k = "first"
    · rw [if_pos h1, if_pos h1]; exact firstOf_sim ren_id this
    · rw [if_neg h1, if_neg h1]
      by_cases h2 : k = "all"
      · rw [if_pos h2, if_pos h2]; exact allOf_sim ren_id this _
      · rw [if_neg h2, if_neg h2]; exact allOf_sim ren_id this _
  | .case ws ts e, a, a' => by
    simp only [run]
    exact caseOf_sim (runL_adr R ws a a' 0 0 2 2) (runL_adr R ts a a' 1 1 2 2) (run_adr R e _ _) rfl
theorem runL_adr (R : Str → V) : ∀ (cs : List Cnd) (a a' : List Int) (i i' st st' : Int), Sims id (runL R a i st cs) (runL R a' i' st' cs)
  | [], _, _, _, _, _, _ => by simp only [runL]; exact .nil
  | c :: cs, a, a', i, i', st, st' => by simp only [runL]; exact .cons (run_adr R c _ _) (runL_adr R cs a a' _ _ _ _)
end
theorem leaf_turn (R : Str → V) (l : Leaf) (a : List Int) : Sim exch (run R a (.leaf l)) (run R a l.turn) := by
  cases l <;> (simp only [Leaf.turn, run, leafAns]; exact ⟨rfl, rfl⟩)
mutual
theorem run_turn (R : Str → V) : ∀ (c : Cnd) (a : List Int), Sim exch (run R a c) (run R a c.turn)
  | .leaf l, a => by rw [Cnd.turn]; exact leaf_turn R l a
  | .not c, a => by
    have := run_adr R c (a ++ [0]) a
    rw [Cnd.turn]
    have e : run R a (.not c) = (exch (run R (a ++ [0]) c).1, (run R (a ++ [0]) c).2) := by simp only [run]
    rw [e]
    exact ⟨by show (run R a c).1 = exch (exch _); rw [exch_exch, this.ans]; rfl, this.len⟩
  | .node k cs, a => by
    have := runL_turn R cs a 0 1
    rw [Cnd.turn]
    simp only [run]
    unfold nodeOf turnK
    by_cases h1 : k = "first"
    · rw [if_pos h1, if_pos h1, if_pos rfl]; exact firstOf_sim ren_exch this
    · rw [if_neg h1, if_neg h1]
      by_cases h2 : k = "all"
      · rw [if_pos h2, if_pos h2, if_neg (by decide +kernel), if_neg (by decide +kernel)]
        exact allOf_sim (dec := "no") ren_exch this "yes"
      · rw [if_neg h2, if_neg h2, if_neg (by decide +kernel), if_pos rfl]
        exact allOf_sim (dec := "yes") ren_exch this "no"
  | .case ws ts e, a => by
    rw [Cnd.turn]
    simp only [run]
    exact caseOf_sim (runL_adr R ws a a 0 0 2 2) (runL_turn R ts a 1 2) (run_turn R e _) (by decide +kernel)
theorem runL_turn (R : Str → V) : ∀ (cs : List Cnd) (a : List Int) (i st : Int), Sims exch (runL R a i st cs) (runL R a i st (Cnd.turnL cs))
  | [], _, _, _ => by rw [Cnd.turnL]; simp only [runL]; exact .nil
  | c :: cs, a, i, st => by rw [Cnd.turnL]; simp only [runL]; exact .cons (run_turn R c _) (runL_turn R cs a _ _)
end
theorem len_turnL (cs : List Cnd) : (Cnd.turnL cs).length = cs.length := by rw [Cnd.turnL_map, List.length_map]
/-! ### what is turned is a condition, little greater -/
theorem word_exch {w : Str} (h : w ∈ words) : exch w ∈ words := by
  have : ∀ w ∈ words, exch w ∈ words := by decide +kernel
  exact this w h
theorem kind_turn {k : Str} (h : k ∈ kinds) : turnK k ∈ kinds := by
  have : ∀ k ∈ kinds, turnK k ∈ kinds := by decide +kernel
  exact this k h
mutual
theorem ok_turn {ns : List Str} : ∀ (c : Cnd), c.ok ns → c.turn.ok ns
  | .leaf l, h => by
    rw [Cnd.turn]
    cases l with
    | always w => exact word_exch h
    | _ => exact h
  | .not c, h => by rw [Cnd.turn]; rw [Cnd.ok] at h; exact h
  | .node k cs, h => by rw [Cnd.turn, Cnd.ok]; rw [Cnd.ok] at h; exact ⟨kind_turn h.1, okL_turn cs h.2⟩
  | .case ws ts e, h => by rw [Cnd.turn, Cnd.ok]; rw [Cnd.ok] at h; exact ⟨by rw [len_turnL]; exact h.1, h.2.1, okL_turn ts h.2.2.1, ok_turn e h.2.2.2⟩
theorem okL_turn {ns : List Str} : ∀ (cs : List Cnd), Cnd.okL ns cs → Cnd.okL ns (Cnd.turnL cs)
  | [], h => by rw [Cnd.turnL]; exact h
  | c :: cs, h => by rw [Cnd.turnL, Cnd.okL]; rw [Cnd.okL] at h; exact ⟨ok_turn c h.1, okL_turn cs h.2⟩
end
mutual
theorem depth_turn : ∀ (c : Cnd), c.turn.depth ≤ c.depth + 1
  | .leaf l => by rw [Cnd.turn]; cases l <;> simp [Leaf.turn, Cnd.depth]
  | .not c => by rw [Cnd.turn, Cnd.depth]; omega
  | .node k cs => by rw [Cnd.turn, Cnd.depth, Cnd.depth]; have := depthL_turn cs; omega
  | .case ws ts e => by rw [Cnd.turn, Cnd.depth, Cnd.depth]; have := depthL_turn ts; have := depth_turn e; omega
theorem depthL_turn : ∀ (cs : List Cnd), Cnd.depthL (Cnd.turnL cs) ≤ Cnd.depthL cs + 1
  | [] => by rw [Cnd.turnL, Cnd.depthL]; omega
  | c :: cs => by rw [Cnd.turnL, Cnd.depthL, Cnd.depthL]; have := depth_turn c; have := depthL_turn cs; omega
end
mutual
theorem weight_turn : ∀ (c : Cnd), 5000 * c.turn.weight ≤ 5001 * c.weight
  | .leaf l => by rw [Cnd.turn]; cases l <;> simp [Leaf.turn, Cnd.weight]
  | .not c => by rw [Cnd.turn, Cnd.weight]; omega
  | .node k cs => by rw [Cnd.turn, Cnd.weight, Cnd.weight]; have := weightL_turn cs; omega
  | .case ws ts e => by rw [Cnd.turn, Cnd.weight, Cnd.weight]; have := weightL_turn ts; have := weight_turn e; omega
theorem weightL_turn : ∀ (cs : List Cnd), 5000 * Cnd.weightL (Cnd.turnL cs) ≤ 5001 * Cnd.weightL cs
  | [] => by rw [Cnd.turnL, Cnd.weightL]; omega
  | c :: cs => by rw [Cnd.turnL, Cnd.weightL, Cnd.weightL]; have := weight_turn c; have := weightL_turn cs; omega
end
end Gx

set_option Elab.async false
set_option linter.all false
set_option maxRecDepth 100000
set_option maxHeartbeats 4000000
namespace K26
open PySem PySem.Spec PyProof.Rows L2 Evl Gx
/-- a tuple, a dict of texts that the module holds -/
structure ConT (K : PySem.W.Frag) (mg : Str → Option Value) (x : Str) (a : Addr) (xs : List V) : Prop where
  mg : mg x = some (.ref a)
  at_ : ∀ H : Hp, SqT K H a xs
structure ConD (K : PySem.W.Frag) (w : World) (mg : Str → Option Value) (x : Str) (a : Addr) (xs : List (Str × Str)) : Prop where
  mg : mg x = some (.ref a)
  at_ : ∀ p ∈ xs, KDct K w a p.1 (.str p.2)
def tests : List Str := ["asks", "empty", "number"]
def oppo : List (Str × Str) := [("error", "error"), ("no", "yes"), ("unknown", "unknown"), ("yes", "no")]
def lturn : List (Str × Str) := [("all", "any"), ("any", "all"), ("first", "first")]
theorem oppo_in {x : Str} (h : x ∈ words) : (x, exch x) ∈ oppo := by
  have : ∀ x ∈ words, (x, exch x) ∈ oppo := by decide +kernel
  exact this x h
theorem lturn_in {x : Str} (h : x ∈ kinds) : (x, turnK x) ∈ lturn := by
  have : ∀ x ∈ kinds, (x, turnK x) ∈ lturn := by decide +kernel
  exact this x h
theorem kind_test {x : Str} (h : x ∈ kinds) : inV (.str x) (tests.map V.str) = false ∧ decide (V.str x = .str "always") = false ∧ decide (V.str x = .str "not") = false ∧ decide (V.str x = .str "case") = false := by
  have : ∀ x ∈ kinds, inV (.str x) (tests.map V.str) = false ∧ decide (V.str x = .str "always") = false ∧ decide (V.str x = .str "not") = false ∧ decide (V.str x = .str "case") = false := by decide +kernel
  exact this x h
abbrev kk (x y : Str) : Key × V := (Sum.inr x, .str y)
theorem dict_exch {x : Str} (h : x ∈ words) : (valV (mergeK [] [kk "yes" "no", kk "no" "yes"]) (Sum.inr x)).getD (.str x) = .str (exch x) := by
  have : ∀ x ∈ words, (valV (mergeK [] [kk "yes" "no", kk "no" "yes"]) (Sum.inr x)).getD (.str x) = .str (exch x) := by decide +kernel
  exact this x h
theorem kind_law {x : Str} (h : x ∈ kinds) : (inV (.str x) [.str "all", .str "any"] = true ∧ valV (mergeK [] [kk "all" "any", kk "any" "all"]) (Sum.inr x) = some (.str (turnK x))) ∨
    (x = "first" ∧ inV (.str x) [.str "all", .str "any"] = false) := by
  have : ∀ x ∈ kinds, (inV (.str x) [.str "all", .str "any"] = true ∧ valV (mergeK [] [kk "all" "any", kk "any" "all"]) (Sum.inr x) = some (.str (turnK x))) ∨
    (x = "first" ∧ inV (.str x) [.str "all", .str "any"] = false) := by decide +kernel
  exact this x h
end K26

set_option Elab.async false
set_option linter.all false
set_option maxRecDepth 100000
set_option maxHeartbeats 4000000
namespace K26
open PySem PySem.Spec PyProof.Rows L2 Evl Gx
abbrev s_Errs___init : Stmt := inClass (topS 2) 0
theorem sc_Errs___init : FnScope ["self", "number"] ["self", "number"] (defScope s_Errs___init) := ⟨rfl, rfl, rfl, by decide +kernel, rfl, by decide +kernel, by decide +kernel⟩
abbrev s_goal_of : Stmt := topS 7
theorem sc_goal_of : FnScope ["entries", "number", "key", "goal"] ["entries", "number"] (defScope s_goal_of) := ⟨rfl, rfl, rfl, by decide +kernel, rfl, by decide +kernel, by decide +kernel⟩
abbrev s_steps_on : Stmt := topS 8
theorem sc_steps_on : FnScope ["steps", "number", "found", "kind", "worth"] ["steps", "number"] (defScope s_steps_on) := ⟨rfl, rfl, rfl, by decide +kernel, rfl, by decide +kernel, by decide +kernel⟩
abbrev Wish (C : Addr) (E : XK) (H : Hp) (n : Int) : Prop := ∀ d H', Ex H H' → H' d = some (.xd [(("number" : Str), .int n)]) → E (.ref C) (some d) H'
def spGoal (K : PySem.W.Frag) (C : Addr) : Sp := fun vs H Q E => ∃ (c : Addr) (as : List Addr) (ps : List (Int × Int)) (n : Int), vs = [.ref c, .int n] ∧
  SqT K H c (as.map V.ref) ∧ Paired (PairAt K H) as ps ∧ (∀ m, look ps n = some m → Q (.int m) H) ∧ (look ps n = none → Wish C E H n)
def spStepsOn (K : PySem.W.Frag) (C : Addr) : Sp := fun vs H Q E => ∃ (a : Addr) (ws : List V) (ss : List Stp) (n : Int), vs = [.ref a, .int n] ∧
  SqT K H a ws ∧ StpsAt K H ws ss ∧ (∀ s ∈ ss, Stp.ok s) ∧ ss.length ≤ 10 ∧ n.natAbs < 2 ^ 200 ∧
  (∀ m, leadAll ss n = some m → Q (.int m) H) ∧ (∀ m, erredAt ss n = some m → Wish C E H m)
theorem divz {k : Int} (h : k ≠ 0) (b : k.natAbs < 2 ^ 2000) : CDivZ n k := ⟨h, by
  have := (Nat.log2_lt (by omega : k.natAbs ≠ 0)).mpr b
  omega⟩
theorem bitsK {k : Int} (h : Near k) : k.natAbs < 2 ^ 2000 := by
  have h1 := near_abs h
  have h2 : (2 : Nat) ^ 40 ≤ 2 ^ 2000 := Nat.pow_le_pow_right (by decide) (by decide)
  have h3 : (2 : Nat) ^ 40 = 1099511627776 := by decide
  omega
theorem lg {k : Int} (h : k.natAbs < 2 ^ 2000) : k.natAbs.log2 < 2001 := by
  by_cases h0 : k.natAbs = 0
  · rw [h0]; decide
  · have := (Nat.log2_lt h0).mpr h
    omega
theorem look_app (a b : List (Int × Int)) (n : Int) : look (a ++ b) n = match look a n with | some m => some m | none => look b n := by
  unfold look
  rw [List.find?_append]
  cases List.find? (fun p => decide (p.1 = n)) a <;> rfl
theorem look_one (k g n : Int) : look [(k, g)] n = if k = n then some g else none := by
  unfold look
  by_cases h : k = n <;> simp [List.find?_cons, h]
theorem take_cons {α : Type} {l : List α} {i : Nat} {x : α} (h : l[i]? = some x) : l = l.take i ++ x :: l.drop (i + 1) := by
  obtain ⟨hi, e⟩ := List.getElem?_eq_some_iff.mp h
  subst e
  rw [List.getElem_cons_drop, List.take_append_drop]
theorem take_snoc {α : Type} {l : List α} {i : Nat} {x : α} (h : l[i]? = some x) : l.take (i + 1) = l.take i ++ [x] := by
  rw [List.take_add_one, h]; rfl
theorem leadAll_app (a b : List Stp) : ∀ n : Int, leadAll (a ++ b) n = match leadAll a n with | some m => leadAll b m | none => none := by
  induction a with
  | nil => intro n; rfl
  | cons s r ih =>
    intro n
    show (match lead s n with | some m => leadAll (r ++ b) m | none => none) =
      match (match lead s n with | some m => leadAll r m | none => none) with | some m => leadAll b m | none => none
    cases lead s n with
    | none => rfl
    | some m => exact ih m
theorem erred_app (a b : List Stp) : ∀ n m : Int, leadAll a n = some m → erredAt (a ++ b) n = erredAt b m := by
  induction a with
  | nil => intro n m h; cases h; rfl
  | cons s r ih =>
    intro n m h
    unfold leadAll at h
    show (match lead s n with | some m => erredAt (r ++ b) m | none => some n) = _
    cases e : lead s n with
    | none => rw [e] at h; cases h
    | some q => rw [e] at h; exact ih q m h
section
variable {P : Program} {w : World} {K : PySem.W.Frag} {mg : Str → Option Value} {base : Heap} {C fI : Addr} {fdI : FuncData}
theorem ok_init (e_Errs : Err K mg "Errs" "Errs.__init__" "number" ["self", "number"] s_Errs___init C fI fdI) :
    FnOk P w K mg base CX0 1 fI fdI ["self", "number"] (spInit C "number") := by
  refine e_Errs.fn.ok sc_Errs___init (fun vs H Q E h => ?_) (fun cdv A outer s H vs Q E hr h => ?_)
  · obtain ⟨a, v, rfl, _⟩ := h
    rfl
  · obtain ⟨a, v, rfl, ha, k⟩ := h
    refine ⟨_, (pss_one (ps_ost (pv 0) (pv 1))), ?_⟩
    exact ⟨_, rfl, _, rfl, a, C, rfl, e_Errs.T, e_Errs.no, .inl ⟨ha, k⟩⟩
theorem ok_goal_of {f : Addr} {fd : FuncData} (D : Def K mg "_goal_of" s_goal_of f fd ["entries", "number"]) (bi : Bi mg)
    (e_Errs : Err K mg "Errs" "Errs.__init__" "number" ["self", "number"] s_Errs___init C fI fdI)
    (GI_Errs : FnOk P w K mg base CX0 1 fI fdI ["self", "number"] (spInit C "number")) :
    FnOk P w K mg base (L2.CX P w) 3 f fd ["entries", "number"] (spGoal K C) := by
  refine D.fn.okX sc_goal_of (fun vs H Q E h => ?_) (fun cdv A outer s0 H vs Q E hr h => ?_)
  · obtain ⟨c, as, ps, n, rfl, _⟩ := h
    rfl
  · obtain ⟨c, as, ps, n, rfl, hc, hp, kq, ke⟩ := h
    refine ⟨_, (pss_cons (ps_for PassesOwn.leaving rfl (pi_tup (pv 0)) (pg_tup rfl (pgs_cons (pg_name (i := 2) sc_goal_of.nd rfl (Or.inl rfl)) (pgs_cons (pg_name (i := 3) sc_goal_of.nd rfl (Or.inl rfl)) pgs_nil)))
    (pss_one (ps_if (pt_cmpR op_eq (pv 2) (pv 1) (nomark _))
      (pss_one (ps_ret (pv 3)))
      pss_nil)))
  (pss_one (L2.ps_raise rfl (L2.takes_of rfl rfl rfl rfl) (pmk_oex e_Errs.T e_Errs.iC e_Errs.tI GI_Errs (hr.mono (by first | decide | omega)) e_Errs.bd .nil pass0 rfl e_Errs.gC (pa_cons (pv 1) pa_nil))))), ?_⟩
    refine ⟨_, rfl, c, rfl, ⟨_, hc⟩, for_tup (xs := as.map V.ref) (fun i σ H' => ∃ x4 x5 : Option V, σ = [some (.ref c), some (.int n), x4, x5] ∧
        H' = H ∧ look (ps.take i) n = none) ?_ (fun i σ H' _ ⟨_, _, _, e, _⟩ => by rw [e]; exact hc) ?_ ?_⟩
    · exact ⟨none, none, rfl, rfl, rfl⟩
    · rintro i v σ H' hi ⟨x4, x5, rfl, eH, hl⟩
      have eH := eH.symm
      subst eH
      obtain ⟨p, hpi, rfl⟩ : ∃ p, as[i]? = some p ∧ v = V.ref p := by
        rw [List.getElem?_map] at hi
        obtain ⟨p, h1, h2⟩ := Option.map_eq_some_iff.mp hi
        exact ⟨p, h1, h2.symm⟩
      obtain ⟨⟨k, g⟩, hk, hpr⟩ := Gx.paired_get hp hpi
      refine ⟨p, _, rfl, hpr, rfl, _, _, rfl, _, _, rfl, rfl, ?_⟩
      refine ⟨_, rfl, _, rfl, rfl, _, rfl, if_d (fun e => ?_) (fun e => ?_)⟩
      · have e := V.int.inj e
        subst e
        refine ⟨_, rfl, kq _ ?_⟩
        show look ps k = _
        rw [take_cons hk, look_app, hl]
        show look ([(k, g)] ++ _) k = _
        rw [look_app, look_one, if_pos rfl]
      · refine ⟨_, _, rfl, rfl, ?_⟩
        rw [take_snoc hk, look_app, hl]
        show look [(k, g)] n = none
        rw [look_one, if_neg (fun z => e (by rw [z]))]
    · rintro σ H' ⟨x4, x5, rfl, eH, hl⟩
      have eH := eH.symm
      subst eH
      rw [List.length_map, Paired.length hp, List.take_length] at hl
      have bye : tMkO C (spInit C "number") [] (tCons (tVar 1) tNil) [some (.ref c), some (.int n), x4, x5] H (fun cls d H' => E cls d H') :=
        raise_read (v := .int n) (H1 := H) (fun Q q => ⟨_, rfl, q⟩) (fun d H' ex hd => ke hl d H' ex hd)
      exact bye
theorem ok_steps_on {f : Addr} {fd : FuncData} (D : Def K mg "steps_on" s_steps_on f fd ["steps", "number"]) (bi : Bi mg)
    (e_Errs : Err K mg "Errs" "Errs.__init__" "number" ["self", "number"] s_Errs___init C fI fdI)
    (GI_Errs : FnOk P w K mg base CX0 1 fI fdI ["self", "number"] (spInit C "number"))
    {f_goal_of : Addr} {fd_goal_of : FuncData} (D_goal_of : Def K mg "_goal_of" s_goal_of f_goal_of fd_goal_of ["entries", "number"])
    (G_goal_of : FnOk P w K mg base (L2.CX P w) 3 f_goal_of fd_goal_of ["entries", "number"] (spGoal K C)) :
    FnOk P w K mg base (L2.CX P w) 4 f fd ["steps", "number"] (spStepsOn K C) := by
  refine D.fn.okX sc_steps_on (fun vs H Q E h => ?_) (fun cdv A outer s0 H vs Q E hr h => ?_)
  · obtain ⟨v, s, n, m, rfl, _⟩ := h
    rfl
  · obtain ⟨a, ws, ss, n, rfl, ha, hst, ho, hl, hn, kq, ke⟩ := h
    refine ⟨_, (pss_cons (ps_set (i := 2) sc_steps_on.nd rfl (Or.inl rfl) (pv 1))
  (pss_cons (ps_for PassesOwn.leaving rfl (pi_tup (pv 0)) (pg_tup rfl (pgs_cons (pg_name (i := 3) sc_steps_on.nd rfl (Or.inl rfl)) (pgs_cons (pg_name (i := 4) sc_steps_on.nd rfl (Or.inl rfl)) pgs_nil)))
    (pss_one (ps_if (pt_cmpR op_eq (pv 3) pe_str (nomark _))
      (pss_cons (ps_if (pt_cmpR op_eq (pv 2) pe_int (nomark _))
        (pss_one (L2.ps_raise rfl (L2.takes_of rfl rfl rfl rfl) (pmk_oex e_Errs.T e_Errs.iC e_Errs.tI GI_Errs (hr.mono (by first | decide | omega)) e_Errs.bd .nil pass0 rfl e_Errs.gC (pa_cons (pv 2) pa_nil))))
        pss_nil)
      (pss_one (ps_set (i := 2) sc_steps_on.nd rfl (Or.inl rfl) (pe_op op_fdivZ (pv 4) (pv 2)))))
      (pss_one (ps_if (pt_cmpR op_eq (pv 3) pe_str (nomark _))
        (pss_one (ps_set (i := 2) sc_steps_on.nd rfl (Or.inl rfl) (pe_op op_add (pv 2) (pv 4))))
        (pss_one (ps_if (pt_cmpR op_eq (pv 3) pe_str (nomark _))
          (pss_one (ps_set (i := 2) sc_steps_on.nd rfl (Or.inl rfl) (pe_op op_mulW (pv 2) (pv 4))))
          (pss_one (ps_if (pt_cmpR op_eq (pv 3) pe_str (nomark _))
            (pss_one (ps_set (i := 2) sc_steps_on.nd rfl (Or.inl rfl) (pe_op op_fdivZ (pv 2) (pv 4))))
            (pss_one (ps_set (i := 2) sc_steps_on.nd rfl (Or.inl rfl) (pe_call G_goal_of (hr.mono (by first | decide | omega)) rfl D_goal_of.mg D_goal_of.fn.kp D_goal_of.bd .nil (L2.passes_call (L2.takes_of rfl rfl rfl rfl) (fun _ _ _ _ h => h)) (pa_cons (pv 4) (pa_cons (pv 2) pa_nil))))))))))))))
  (pss_one (ps_ret (pv 2))))), ?_⟩
    refine ⟨_, rfl, ?_⟩
    refine ⟨_, rfl, a, rfl, ⟨_, ha⟩, for_tup (xs := ws) (fun i σ H' => ∃ (m : Int) (x3 x4 : Option V), σ = [some (.ref a), some (.int n), some (.int m), x3, x4] ∧
      H' = H ∧ leadAll (ss.take i) n = some m ∧ m.natAbs < 2 ^ (200 + 41 * i)) ?_ (fun i σ H' _ ⟨_, _, _, _, e, _⟩ => by rw [e]; exact ha) ?_ ?_⟩
    · exact ⟨n, none, none, rfl, rfl, rfl, by simpa using hn⟩
    · rintro i v σ H' hi ⟨m, x3, x4, rfl, eH, hm, hb⟩
      have eH := eH.symm
      subst eH
      obtain ⟨s, hs, hv⟩ := Gx.paired_get hst hi
      have hos := ho s (List.mem_of_getElem? hs)
      have il : i < ss.length := (List.getElem?_eq_some_iff.mp hs).1
      have b2 : m.natAbs < 2 ^ 2000 := Nat.lt_of_lt_of_le hb (Nat.pow_le_pow_right (by decide) (by omega))
      have more : ∀ m', lead s m = some m' → leadAll (ss.take (i + 1)) n = some m' ∧ m'.natAbs < 2 ^ (200 + 41 * (i + 1)) := fun m' e => by
        refine ⟨?_, lead_big hos hb e⟩
        rw [take_snoc hs, leadAll_app, hm]
        show (match lead s m with | some q => leadAll [] q | none => none) = _
        rw [e]; rfl
      have less : lead s m = none → Wish C E H m := fun e => by
        refine ke m ?_
        rw [take_cons hs, erred_app _ _ n m hm]
        show (match lead s m with | some q => erredAt _ q | none => some m) = _
        rw [e]
      cases s with
      | plus k =>
        obtain ⟨b, rfl, ht⟩ := hv
        refine ⟨b, _, rfl, ht, rfl, _, _, rfl, _, _, rfl, rfl, ?_⟩
        refine ⟨_, rfl, rfl, _, rfl, if_f (by decide +kernel) ?_⟩
        refine ⟨_, rfl, rfl, _, rfl, if_t (by decide +kernel) ⟨_, rfl, _, rfl, m, k, rfl, rfl, _, _, _, rfl, rfl, more _ rfl⟩⟩
      | times k =>
        obtain ⟨b, rfl, ht⟩ := hv
        refine ⟨b, _, rfl, ht, rfl, _, _, rfl, _, _, rfl, rfl, ?_⟩
        refine ⟨_, rfl, rfl, _, rfl, if_f (by decide +kernel) ?_⟩
        refine ⟨_, rfl, rfl, _, rfl, if_f (by decide +kernel) ?_⟩
        refine ⟨_, rfl, rfl, _, rfl, if_t (by decide +kernel) ⟨_, rfl, _, rfl, m, k, rfl, rfl, ?_, _, _, _, rfl, rfl, more _ rfl⟩⟩
        have h1 := lg b2
        have h2 := lg (bitsK hos.1)
        show m.natAbs.log2 + k.natAbs.log2 < 1000000
        omega
      | into k =>
        obtain ⟨b, rfl, ht⟩ := hv
        refine ⟨b, _, rfl, ht, rfl, _, _, rfl, _, _, rfl, rfl, ?_⟩
        refine ⟨_, rfl, rfl, _, rfl, if_f (by decide +kernel) ?_⟩
        refine ⟨_, rfl, rfl, _, rfl, if_f (by decide +kernel) ?_⟩
        refine ⟨_, rfl, rfl, _, rfl, if_f (by decide +kernel) ?_⟩
        have k0 : k ≠ 0 := by have := hos.1; omega
        have kn : Near k := ⟨by have := hos.1; omega, hos.2⟩
        refine ⟨_, rfl, rfl, _, rfl, if_t (by decide +kernel) ⟨_, rfl, _, rfl, m, k, rfl, rfl, divz k0 (bitsK kn), _, _, _, rfl, rfl, more _ rfl⟩⟩
      | over k =>
        obtain ⟨b, rfl, ht⟩ := hv
        refine ⟨b, _, rfl, ht, rfl, _, _, rfl, _, _, rfl, rfl, ?_⟩
        refine ⟨_, rfl, rfl, _, rfl, if_t (by decide +kernel) ?_⟩
        refine ⟨_, rfl, rfl, _, rfl, if_d (fun h0 => ?_) (fun h0 => ?_)⟩
        · have h0 := V.int.inj h0
          exact raise_read (v := .int m) (H1 := H) (fun Q q => ⟨_, rfl, q⟩) (fun d H' ex hd => less (if_pos h0) d H' ex hd)
        · have n0 : m ≠ 0 := fun e => h0 (by rw [e])
          refine ⟨_, rfl, _, rfl, k, m, rfl, rfl, divz n0 b2, _, _, _, rfl, rfl, more _ ?_⟩
          show (if m = 0 then none else some (k.fdiv m)) = _
          rw [if_neg n0]
      | found ps =>
        obtain ⟨b, c, as, rfl, ht, hx, hp⟩ := hv
        refine ⟨b, _, rfl, ht, rfl, _, _, rfl, _, _, rfl, rfl, ?_⟩
        refine ⟨_, rfl, rfl, _, rfl, if_f (by decide +kernel) ?_⟩
        refine ⟨_, rfl, rfl, _, rfl, if_f (by decide +kernel) ?_⟩
        refine ⟨_, rfl, rfl, _, rfl, if_f (by decide +kernel) ?_⟩
        refine ⟨_, rfl, rfl, _, rfl, if_f (by decide +kernel) ?_⟩
        exact ⟨_, rfl, _, rfl, c, as, ps, m, rfl, hx.sq, hp, fun m' e => ⟨_, _, _, rfl, rfl, more m' e⟩, fun e d H' ex hd => less e d H' ex hd⟩
    · rintro σ H' ⟨m, x3, x4, rfl, eH, hm, hb⟩
      have eH := eH.symm
      subst eH
      rw [Paired.length hst, List.take_length] at hm
      exact ⟨_, rfl, kq m hm⟩
end
end K26

set_option Elab.async false
set_option linter.all false
set_option maxRecDepth 100000
set_option maxHeartbeats 4000000
set_option exponentiation.threshold 3000
namespace K26
open PySem PySem.Spec PyProof.Rows L2 Evl Gx
abbrev s_is_integer : Stmt := topS 5
theorem sc_is_integer : FnScope ["thing"] ["thing"] (defScope s_is_integer) := ⟨rfl, rfl, rfl, by decide +kernel, rfl, by decide +kernel, by decide +kernel⟩
abbrev s_column_of : Stmt := topS 14
theorem sc_column_of : FnScope ["test"] ["test"] (defScope s_column_of) := ⟨rfl, rfl, rfl, by decide +kernel, rfl, by decide +kernel, by decide +kernel⟩
abbrev s_agrees : Stmt := topS 15
theorem sc_agrees : FnScope ["number", "sign", "other"] ["number", "sign", "other"] (defScope s_agrees) := ⟨rfl, rfl, rfl, by decide +kernel, rfl, by decide +kernel, by decide +kernel⟩
abbrev s_asks_answer : Stmt := topS 16
theorem sc_asks_answer : FnScope ["test", "value", "_", "steps", "sign", "number", "reached"] ["test", "value"] (defScope s_asks_answer) := ⟨rfl, rfl, rfl, by decide +kernel, rfl, by decide +kernel, by decide +kernel⟩
abbrev s_test_answer : Stmt := topS 17
theorem sc_test_answer : FnScope ["test", "value"] ["test", "value"] (defScope s_test_answer) := ⟨rfl, rfl, rfl, by decide +kernel, rfl, by decide +kernel, by decide +kernel⟩
abbrev s_leaf_answer : Stmt := topS 21
theorem sc_leaf_answer : FnScope ["condition", "row"] ["condition", "row"] (defScope s_leaf_answer) := ⟨rfl, rfl, rfl, by decide +kernel, rfl, by decide +kernel, by decide +kernel⟩
/-- what a row may hold -/
def valOk (x : V) : Prop := x = .non ∨ (∃ i : Int, x = .int i ∧ i.natAbs < 2 ^ 200) ∨ ∃ s : Str, x = .str s ∧ Nm s
def isI : V → Bool
  | .int _ => true
  | _ => false
def spIsInt : Sp := fun vs H Q _ => ∃ v, vs = [v] ∧ valOk v ∧ Q (.bl (isI v)) H
def colOf : Leaf → Option Str
  | .always _ => none
  | .empty n => some n
  | .number n => some n
  | .asks n _ _ _ => some n
def spCol (K : PySem.W.Frag) : Sp := fun vs H Q _ => ∃ v l n, vs = [v] ∧ LeafAt K H v l ∧ colOf l = some n ∧ Q (.str n) H
def spAgrees : Sp := fun vs H Q _ => ∃ (m k : Int) (sg : Str), vs = [.int m, .str sg, .int k] ∧ sg ∈ sgns ∧ Q (.bl (agreesB m sg k)) H
def spAsks (K : PySem.W.Frag) : Sp := fun vs H Q _ => ∃ (v : V) (n : Str) (ss : List Stp) (sg : Str) (k : Int) (ns : List Str) (R : Str → V), vs = [v, R n] ∧ LeafAt K H v (.asks n ss sg k) ∧
  Leaf.ok ns (.asks n ss sg k) ∧ valOk (R n) ∧ ∀ H', Ex H H' → Q (.str (leafAns R (.asks n ss sg k))) H'
def spTestAns (K : PySem.W.Frag) : Sp := fun vs H Q _ => ∃ (v : V) (l : Leaf) (n : Str) (ns : List Str) (R : Str → V), vs = [v, R n] ∧ LeafAt K H v l ∧ colOf l = some n ∧
  Leaf.ok ns l ∧ valOk (R n) ∧ ∀ H', Ex H H' → Q (.str (leafAns R l)) H'
def RowAt (H : Hp) (r : Addr) (ns : List Str) (R : Str → V) : Prop := ∃ kvs, H r = some (.dK kvs) ∧ ∀ n ∈ ns, valV kvs (Sum.inr n) = some (R n) ∧ valOk (R n)
def spAskLeaf (K : PySem.W.Frag) : Sp := fun vs H Q _ => ∃ (v : V) (r : Addr) (l : Leaf) (ns : List Str) (R : Str → V), vs = [v, .ref r] ∧ LeafAt K H v l ∧ Leaf.ok ns l ∧ RowAt H r ns R ∧
  ∀ H', Ex H H' → Q (.str (leafAns R l)) H'
theorem sign_in {sg : Str} (h : sg ∈ sgns) : inV (.str sg) ((["<", "<=", "<>"] : List Str).map V.str) = decide (sg ∈ (["<", "<=", "<>"] : List Str)) ∧
    inV (.str sg) ((["<>", ">", ">="] : List Str).map V.str) = decide (sg ∈ (["<>", ">", ">="] : List Str)) ∧
    inV (.str sg) ((["<=", "=", ">="] : List Str).map V.str) = decide (sg ∈ (["<=", "=", ">="] : List Str)) := by
  have : ∀ sg ∈ sgns, inV (.str sg) ((["<", "<=", "<>"] : List Str).map V.str) = decide (sg ∈ (["<", "<=", "<>"] : List Str)) ∧
    inV (.str sg) ((["<>", ">", ">="] : List Str).map V.str) = decide (sg ∈ (["<>", ">", ">="] : List Str)) ∧
    inV (.str sg) ((["<=", "=", ">="] : List Str).map V.str) = decide (sg ∈ (["<=", "=", ">="] : List Str)) := by decide +kernel
  exact this sg h
section
variable {P : Program} {w : World} {K : PySem.W.Frag} {mg : Str → Option Value} {base : Heap} {C fI : Addr} {fdI : FuncData}
variable {f_is_integer f_column_of f_agrees f_steps_on f_asks_answer f_test_answer : Addr} {fd_is_integer fd_column_of fd_agrees fd_steps_on fd_asks_answer fd_test_answer : FuncData}
  {a_BELOW a_LEVEL a_ABOVE : Addr}
theorem ok_is_integer {f : Addr} {fd : FuncData} (D : Def K mg "is_integer" s_is_integer f fd ["thing"]) (bi : Bi mg) :
    FnOk P w K mg base CX0 1 f fd ["thing"] spIsInt := by
  refine D.fn.ok sc_is_integer (fun vs H Q E h => ?_) (fun cdv A outer s0 H vs Q E hr h => ?_)
  · obtain ⟨v, rfl, _⟩ := h
    rfl
  · obtain ⟨v, rfl, hv, k⟩ := h
    refine ⟨_, (pss_one (ps_ret (pe_and (pe_callB call_isi (by rfl) bi.isinstance bt_isinstance (pa_cons (pv 0) (pa_cons (pe_bltn (v := .ty "int") rfl bi.int bt_int rfl) pa_nil))) (pe_one (pe_not (pe_callB call_isi (by rfl) bi.isinstance bt_isinstance (pa_cons (pv 0) (pa_cons (pe_bltn (v := .ty "bool") rfl bi.bool bt_bool rfl) pa_nil)))))))), ?_⟩
    rcases hv with rfl | ⟨i, rfl, _⟩ | ⟨x, rfl, _⟩
    · exact ⟨_, rfl, .non, .ty "int", .type "NoneType", .type "int", false, rfl, .ty "int", .base .non, kit_ty (by decide +kernel), _, rfl, if_f rfl k⟩
    · refine ⟨_, rfl, .int i, .ty "int", .type "int", .type "int", true, rfl, .ty "int", .base (.int i), kit_ty (by decide +kernel), _, rfl, if_t rfl ?_⟩
      exact ⟨_, rfl, .int i, .ty "bool", .type "int", .type "bool", false, rfl, .ty "bool", .base (.int i), kit_ty (by decide +kernel), _, rfl, k⟩
    · exact ⟨_, rfl, .str x, .ty "int", .type "str", .type "int", false, rfl, .ty "int", .base (.str x), kit_ty (by decide +kernel), _, rfl, if_f rfl k⟩
theorem ok_column_of {f : Addr} {fd : FuncData} (D : Def K mg "column_of" s_column_of f fd ["test"]) (bi : Bi mg) :
    FnOk P w K mg base CX0 1 f fd ["test"] (spCol K) := by
  refine D.fn.ok sc_column_of (fun vs H Q E h => ?_) (fun cdv A outer s0 H vs Q E hr h => ?_)
  · obtain ⟨v, l, n, rfl, _⟩ := h
    rfl
  · obtain ⟨v, l, n, rfl, hv, hc, k⟩ := h
    refine ⟨_, (pss_one (ps_ret (pe_ix (ix_tupK (K := K) rfl) (pv 0) pe_int (fun _ _ => rfl)))), ?_⟩
    cases l with
    | always w => cases hc
    | empty n => cases hc; obtain ⟨a, rfl, ha⟩ := hv; exact ⟨_, rfl, a, _, 1, _, rfl, rfl, ha, rfl, k⟩
    | number n => cases hc; obtain ⟨a, rfl, ha⟩ := hv; exact ⟨_, rfl, a, _, 1, _, rfl, rfl, ha, rfl, k⟩
    | asks n ss sg kk => cases hc; obtain ⟨a, b, ws, rfl, ha, _⟩ := hv; exact ⟨_, rfl, a, _, 1, _, rfl, rfl, ha, rfl, k⟩
theorem ok_agrees {f : Addr} {fd : FuncData} (D : Def K mg "_agrees" s_agrees f fd ["number", "sign", "other"]) (bi : Bi mg)
    (C_BELOW : ConT K mg "BELOW" a_BELOW ((["<", "<=", "<>"] : List Str).map V.str)) (C_LEVEL : ConT K mg "LEVEL" a_LEVEL ((["<=", "=", ">="] : List Str).map V.str))
    (C_ABOVE : ConT K mg "ABOVE" a_ABOVE ((["<>", ">", ">="] : List Str).map V.str)) :
    FnOk P w K mg base CX0 1 f fd ["number", "sign", "other"] spAgrees := by
  refine D.fn.ok sc_agrees (fun vs H Q E h => ?_) (fun cdv A outer s0 H vs Q E hr h => ?_)
  · obtain ⟨m, k, sg, rfl, _⟩ := h
    rfl
  · obtain ⟨m, k, sg, rfl, hs, kq⟩ := h
    refine ⟨_, (pss_cons (ps_if (pt_cmpR op_lt (pv 0) (pv 2) (nomark _))
    (pss_one (ps_ret (pe_cmpR op_in_seq (pv 1) (pe_glob (v := .ref a_BELOW) rfl C_BELOW.mg rfl) (by rfl))))
    pss_nil)
  (pss_cons (ps_if (pt_cmpR op_gt (pv 0) (pv 2) (nomark _))
    (pss_one (ps_ret (pe_cmpR op_in_seq (pv 1) (pe_glob (v := .ref a_ABOVE) rfl C_ABOVE.mg rfl) (by rfl))))
    pss_nil)
  (pss_one (ps_ret (pe_cmpR op_in_seq (pv 1) (pe_glob (v := .ref a_LEVEL) rfl C_LEVEL.mg rfl) (by rfl)))))), ?_⟩
    obtain ⟨s1, s2, s3⟩ := sign_in hs
    unfold agreesB at kq
    refine ⟨_, rfl, _, rfl, m, k, rfl, rfl, _, rfl, if_d (fun h1 => ?_) (fun h1 => ?_)⟩
    · rw [if_pos h1, ← s1] at kq
      exact ⟨_, rfl, a_BELOW, _, rfl, .inr (C_BELOW.at_ H), rfl, by decide +kernel, kq⟩
    · rw [if_neg h1] at kq
      refine ⟨_, rfl, _, rfl, m, k, rfl, rfl, _, rfl, if_d (fun h2 => ?_) (fun h2 => ?_)⟩
      · rw [if_pos h2, ← s2] at kq
        exact ⟨_, rfl, a_ABOVE, _, rfl, .inr (C_ABOVE.at_ H), rfl, by decide +kernel, kq⟩
      · rw [if_neg h2, ← s3] at kq
        exact ⟨_, rfl, a_LEVEL, _, rfl, .inr (C_LEVEL.at_ H), rfl, by decide +kernel, kq⟩
end
end K26

set_option Elab.async false
set_option linter.all false
set_option maxRecDepth 100000
set_option maxHeartbeats 4000000
set_option exponentiation.threshold 3000
namespace K26
open PySem PySem.Spec PyProof.Rows L2 Evl Gx
section
variable {P : Program} {w : World} {K : PySem.W.Frag} {mg : Str → Option Value} {base : Heap} {C fI : Addr} {fdI : FuncData}
variable {f_is_integer f_column_of f_agrees f_steps_on f_asks_answer f_test_answer : Addr} {fd_is_integer fd_column_of fd_agrees fd_steps_on fd_asks_answer fd_test_answer : FuncData}
theorem ok_asks_answer {f : Addr} {fd : FuncData} (D : Def K mg "_asks_answer" s_asks_answer f fd ["test", "value"]) (bi : Bi mg)
    (e_Errs : Err K mg "Errs" "Errs.__init__" "number" ["self", "number"] s_Errs___init C fI fdI)
    (D_is_integer : Def K mg "is_integer" s_is_integer f_is_integer fd_is_integer ["thing"])
    (G_is_integer : FnOk P w K mg base CX0 1 f_is_integer fd_is_integer ["thing"] spIsInt)
    (D_agrees : Def K mg "_agrees" s_agrees f_agrees fd_agrees ["number", "sign", "other"])
    (G_agrees : FnOk P w K mg base CX0 1 f_agrees fd_agrees ["number", "sign", "other"] spAgrees)
    (D_steps_on : Def K mg "steps_on" s_steps_on f_steps_on fd_steps_on ["steps", "number"])
    (G_steps_on : FnOk P w K mg base (L2.CX P w) 4 f_steps_on fd_steps_on ["steps", "number"] (spStepsOn K C)) :
    FnOk P w K mg base CX0 5 f fd ["test", "value"] (spAsks K) := by
  refine D.fn.ok sc_asks_answer (fun vs H Q E h => ?_) (fun cdv A outer s0 H vs Q E hr h => ?_)
  · obtain ⟨v, n, ss, sg, kk, ns, R, rfl, _⟩ := h
    rfl
  · obtain ⟨v, n, ss, sg, kk, ns, R, rfl, hv, ok, vo, k⟩ := h
    refine ⟨_, (pss_cons (ps_if (pt_cmpR op_isN (pv 1) pe_non (nomark _))
    (pss_one (ps_ret pe_str))
    pss_nil)
  (pss_cons (ps_if (pt_not (pt_val (pe_call G_is_integer (hr.mono (by first | decide | omega)) rfl D_is_integer.mg D_is_integer.fn.kp D_is_integer.bd .nil pass0 (pa_cons (pv 1) pa_nil))))
    (pss_one (ps_ret pe_str))
    pss_nil)
  (pss_cons (ps_asg (pv 0) (pg_tup rfl (pgs_cons (pg_name (i := 2) sc_asks_answer.nd rfl (Or.inl rfl)) (pgs_cons (pg_name (i := 2) sc_asks_answer.nd rfl (Or.inl rfl)) (pgs_cons (pg_name (i := 3) sc_asks_answer.nd rfl (Or.inl rfl)) (pgs_cons (pg_name (i := 4) sc_asks_answer.nd rfl (Or.inl rfl)) (pgs_cons (pg_name (i := 5) sc_asks_answer.nd rfl (Or.inl rfl)) pgs_nil)))))))
  (pss_cons (ps_try_only (ts := _) (Wout := fun _ _ _ _ => False) rfl rfl ⟨rfl, by decide, .inl e_Errs.gC⟩ takes0 (fun W pn xe tk _ =>
    (pss_one (ps_set (i := 6) sc_asks_answer.nd rfl (Or.inl rfl) (pe_callS G_steps_on (hr.mono (by first | decide | omega)) rfl D_steps_on.mg D_steps_on.fn.kp D_steps_on.bd (fun σ => passAt tk σ) (pa_cons (pv 3) (pa_cons (pv 1) pa_nil)))))) (fun a oe cls d pn hz hf =>
    (pss_one (ps_ret pe_str))))
  (pss_one (ps_ret (pe_ifExp (pt_val (pe_call G_agrees (hr.mono (by first | decide | omega)) rfl D_agrees.mg D_agrees.fn.kp D_agrees.bd .nil pass0 (pa_cons (pv 6) (pa_cons (pv 4) (pa_cons (pv 5) pa_nil))))) pe_str pe_str))))))), ?_⟩
    obtain ⟨a, b, ws, rfl, ha, hb, hst⟩ := hv
    obtain ⟨o1, o2, o3, o4, o5⟩ := ok
    have k : ∀ H', Ex H H' → Q (.str (askV ss sg kk (R n))) H' := k
    rcases vo with hx | ⟨i, hx, hi⟩ | ⟨x, hx, hnm⟩
    · rw [hx] at k ⊢
      exact ⟨_, rfl, rfl, _, rfl, if_t rfl (k H (Ex.refl H))⟩
    · rw [hx] at k ⊢
      refine ⟨_, rfl, rfl, _, rfl, if_f (decide_eq_false nofun) ⟨_, rfl, .int i, rfl, .inr (.inl ⟨i, rfl, hi⟩), _, rfl, if_f rfl ?_⟩⟩
      refine ⟨_, rfl, a, _, rfl, ha, rfl, _, _, rfl, _, _, rfl, _, _, rfl, _, _, rfl, _, _, rfl, rfl, ?_⟩
      refine ⟨_, rfl, _, rfl, b, ws, ss, i, rfl, hb, hst, o2, by omega, hi, fun m hm => ?_, fun m hm d H' ex hd => ⟨true, e_Errs.te, fun _ x nx => ?_, fun h => absurd h (by decide)⟩⟩
      · have k := k H (Ex.refl H)
        rw [askV_some hm] at k
        refine ⟨_, rfl, _, rfl, _, rfl, m, kk, sg, rfl, o4, _, rfl, ?_⟩
        by_cases h1 : agreesB m sg kk = true
        · exact if_t h1 (by rw [if_pos h1] at k; exact k)
        · exact if_f (by simpa using h1) (by rw [if_neg h1] at k; exact k)
      · have k := k H' ex
        have hn : leadAll ss i = none := by
          cases e : leadAll ss i with
          | none => rfl
          | some q => rw [leadAll_some e] at hm; cases hm
        rw [askV_none hn] at k
        exact k
    · rw [hx] at k ⊢
      exact ⟨_, rfl, rfl, _, rfl, if_f (decide_eq_false nofun) ⟨_, rfl, .str x, rfl, .inr (.inr ⟨x, rfl, hnm⟩), _, rfl, if_t rfl (k H (Ex.refl H))⟩⟩
theorem ok_test_answer {f : Addr} {fd : FuncData} (D : Def K mg "test_answer" s_test_answer f fd ["test", "value"]) (bi : Bi mg)
    (D_is_integer : Def K mg "is_integer" s_is_integer f_is_integer fd_is_integer ["thing"])
    (G_is_integer : FnOk P w K mg base CX0 1 f_is_integer fd_is_integer ["thing"] spIsInt)
    (D_asks_answer : Def K mg "_asks_answer" s_asks_answer f_asks_answer fd_asks_answer ["test", "value"])
    (G_asks_answer : FnOk P w K mg base CX0 5 f_asks_answer fd_asks_answer ["test", "value"] (spAsks K)) :
    FnOk P w K mg base CX0 6 f fd ["test", "value"] (spTestAns K) := by
  refine D.fn.ok sc_test_answer (fun vs H Q E h => ?_) (fun cdv A outer s0 H vs Q E hr h => ?_)
  · obtain ⟨v, l, n, ns, R, rfl, _⟩ := h
    rfl
  · obtain ⟨v, l, n, ns, R, rfl, hv, hc, ok, vo, k⟩ := h
    refine ⟨_, (pss_cons (ps_if (pt_cmpR op_eq (pe_ix (ix_tupK (K := K) rfl) (pv 0) pe_int (fun _ _ => rfl)) pe_str (nomark _))
    (pss_one (ps_ret (pe_ifExp (pt_cmpR op_isN (pv 1) pe_non (nomark _)) pe_str pe_str)))
    pss_nil)
  (pss_cons (ps_if (pt_cmpR op_eq (pe_ix (ix_tupK (K := K) rfl) (pv 0) pe_int (fun _ _ => rfl)) pe_str (nomark _))
    (pss_one (ps_ret (pe_call G_asks_answer (hr.mono (by first | decide | omega)) rfl D_asks_answer.mg D_asks_answer.fn.kp D_asks_answer.bd .nil pass0 (pa_cons (pv 0) (pa_cons (pv 1) pa_nil)))))
    pss_nil)
  (pss_cons (ps_if (pt_cmpR op_isN (pv 1) pe_non (nomark _))
    (pss_one (ps_ret pe_str))
    pss_nil)
  (pss_one (ps_ret (pe_ifExp (pt_val (pe_call G_is_integer (hr.mono (by first | decide | omega)) rfl D_is_integer.mg D_is_integer.fn.kp D_is_integer.bd .nil pass0 (pa_cons (pv 1) pa_nil))) pe_str pe_str)))))), ?_⟩
    cases l with
    | always w => cases hc
    | empty n' =>
      cases hc
      obtain ⟨a, rfl, ha⟩ := hv
      have k := k H (Ex.refl H)
      refine ⟨_, rfl, a, _, 0, _, rfl, rfl, ha, rfl, rfl, _, rfl, if_t (by decide +kernel) ⟨_, rfl, rfl, _, rfl, if_d (fun h1 => ?_) (fun h1 => ?_)⟩⟩
      · rw [show leafAns R (.empty n) = "yes" from if_pos h1] at k; exact k
      · rw [show leafAns R (.empty n) = "no" from if_neg h1] at k; exact k
    | number n' =>
      cases hc
      obtain ⟨a, rfl, ha⟩ := hv
      have k : Q (.str (numV (R n))) H := k H (Ex.refl H)
      refine ⟨_, rfl, a, _, 0, _, rfl, rfl, ha, rfl, rfl, _, rfl, if_f (by decide +kernel) ⟨_, rfl, a, _, 0, _, rfl, rfl, ha, rfl, rfl, _, rfl, if_f (by decide +kernel) ?_⟩⟩
      have vo' := vo
      rcases vo with hx | ⟨i, hx, hi⟩ | ⟨x, hx, hnm⟩
      · rw [hx] at k ⊢
        exact ⟨_, rfl, rfl, _, rfl, if_t rfl k⟩
      · rw [hx] at k vo' ⊢
        exact ⟨_, rfl, rfl, _, rfl, if_f (decide_eq_false nofun) ⟨_, rfl, .int i, rfl, vo', _, rfl, if_t rfl k⟩⟩
      · rw [hx] at k vo' ⊢
        exact ⟨_, rfl, rfl, _, rfl, if_f (decide_eq_false nofun) ⟨_, rfl, .str x, rfl, vo', _, rfl, if_f rfl k⟩⟩
    | asks n' ss sg kk =>
      cases hc
      have hv0 := hv
      obtain ⟨a, b, ws, rfl, ha, _⟩ := hv
      exact ⟨_, rfl, a, _, 0, _, rfl, rfl, ha, rfl, rfl, _, rfl, if_f (by decide +kernel) ⟨_, rfl, a, _, 0, _, rfl, rfl, ha, rfl, rfl, _, rfl, if_t (by decide +kernel)
        ⟨_, rfl, _, rfl, .ref a, n, ss, sg, kk, ns, R, rfl, hv0, ok, vo, k⟩⟩⟩
theorem ok_leaf_answer {f : Addr} {fd : FuncData} (D : Def K mg "leaf_answer" s_leaf_answer f fd ["condition", "row"]) (bi : Bi mg)
    (D_column_of : Def K mg "column_of" s_column_of f_column_of fd_column_of ["test"])
    (G_column_of : FnOk P w K mg base CX0 1 f_column_of fd_column_of ["test"] (spCol K))
    (D_test_answer : Def K mg "test_answer" s_test_answer f_test_answer fd_test_answer ["test", "value"])
    (G_test_answer : FnOk P w K mg base CX0 6 f_test_answer fd_test_answer ["test", "value"] (spTestAns K)) :
    FnOk P w K mg base CX0 7 f fd ["condition", "row"] (spAskLeaf K) := by
  refine D.fn.ok sc_leaf_answer (fun vs H Q E h => ?_) (fun cdv A outer s0 H vs Q E hr h => ?_)
  · obtain ⟨v, r, l, ns, R, rfl, _⟩ := h
    rfl
  · obtain ⟨v, r, l, ns, R, rfl, hv, ok, hrow, k⟩ := h
    have hu := hu_of hr
    refine ⟨_, (pss_cons (ps_if (pt_cmpR op_eq (pe_ix (ix_tupK (K := K) rfl) (pv 0) pe_int (fun _ _ => rfl)) pe_str (nomark _))
    (pss_one (ps_ret (pe_ix (ix_tupK (K := K) rfl) (pv 0) pe_int (fun _ _ => rfl))))
    pss_nil)
  (pss_one (ps_ret (pe_call G_test_answer (hr.mono (by first | decide | omega)) rfl D_test_answer.mg D_test_answer.fn.kp D_test_answer.bd .nil pass0 (pa_cons (pv 0) (pa_cons (pe_dget hu (pv 1) (pe_call G_column_of (hr.mono (by first | decide | omega)) rfl D_column_of.mg D_column_of.fn.kp D_column_of.bd .nil pass0 (pa_cons (pv 0) pa_nil)) (fun _ _ => rfl)) pa_nil)))))), ?_⟩
    obtain ⟨kvs, hk, hall⟩ := hrow
    have tst : ∀ (n : Str) (hn : n ∈ ns) (hc : colOf l = some n) (a : Addr), v = .ref a →
        ∃ (a' : Addr) (v' : V), V.ref r = .ref a' ∧ DGet H a' (.str n) (some v') ∧ ∃ (v0 : V) (l : Leaf) (n : Str) (ns : List Str) (R' : Str → V), [V.ref a, v'] = [v0, R' n] ∧ LeafAt K H v0 l ∧ colOf l = some n ∧
          Leaf.ok ns l ∧ valOk (R' n) ∧ ∀ H', Ex H H' → Q (.str (leafAns R' l)) H' := fun n hn hc a ha => by
      subst ha
      obtain ⟨g1, g2⟩ := hall n hn
      exact ⟨r, R n, rfl, by rw [← g1]; exact DGet.k (k := Sum.inr n) hk, .ref a, l, n, ns, R, rfl, hv, hc, ok, g2, fun H' e => k H' e⟩
    have hv0 := hv
    cases l with
    | always w =>
      obtain ⟨a, rfl, ha⟩ := hv
      exact ⟨_, rfl, a, _, 0, _, rfl, rfl, ha, rfl, rfl, _, rfl, if_t (by decide +kernel) ⟨_, rfl, a, _, 1, _, rfl, rfl, ha, rfl, k H (Ex.refl H)⟩⟩
    | empty n =>
      obtain ⟨a, rfl, ha⟩ := hv
      exact ⟨_, rfl, a, _, 0, _, rfl, rfl, ha, rfl, rfl, _, rfl, if_f (by decide +kernel) ⟨_, rfl, _, rfl, _, rfl, .ref a, _, n, rfl, hv0, rfl, tst n ok rfl a rfl⟩⟩
    | number n =>
      obtain ⟨a, rfl, ha⟩ := hv
      exact ⟨_, rfl, a, _, 0, _, rfl, rfl, ha, rfl, rfl, _, rfl, if_f (by decide +kernel) ⟨_, rfl, _, rfl, _, rfl, .ref a, _, n, rfl, hv0, rfl, tst n ok rfl a rfl⟩⟩
    | asks n ss sg kk =>
      obtain ⟨a, b, ws, rfl, ha, _⟩ := hv
      exact ⟨_, rfl, a, _, 0, _, rfl, rfl, ha, rfl, rfl, _, rfl, if_f (by decide +kernel) ⟨_, rfl, _, rfl, _, rfl, .ref a, _, n, rfl, hv0, rfl, tst n ok.1 rfl a rfl⟩⟩
end
end K26

set_option Elab.async false
set_option linter.all false
set_option maxRecDepth 100000
set_option maxHeartbeats 4000000
namespace Gx
open PySem PySem.Spec PyProof.Rows L2 Evl
/-! Asking with a list that grows: what stands, what the list holds. -/
/-- all stands but what lies at one address -/
def ExB (tr : Addr) (H H' : Hp) : Prop := ∀ a o, a ≠ tr → H a = some o → H' a = some o
theorem ExB.of {tr : Addr} {H H' : Hp} (e : Ex H H') : ExB tr H H' := fun a o _ h => e a o h
theorem ExB.trans {tr : Addr} {H H1 H2 : Hp} (a : ExB tr H H1) (b : ExB tr H1 H2) : ExB tr H H2 := fun c o n h => b c o n (a c o n h)
theorem ExB.toI {tr : Addr} {H H' : Hp} {ts : List V} (h : H tr = some (.lst ts)) (e : ExB tr H H') : ExI H H' := fun a o q i => by
  refine e a o (fun z => ?_) q
  subst z
  rw [h] at q
  cases q
  cases i
theorem ExB.put {tr : Addr} {H : Hp} {o : HO} : ExB tr H (upd H tr o) := fun a u n h => by rw [upd_ne n]; exact h
/-- what the list holds: addresses with what was said there -/
def Ents (K : PySem.W.Frag) (H : Hp) : List V → List PyData → Prop
  | [], [] => True
  | v :: vs, d :: ds => (∃ (e ad : Addr) (adr : List Int) (w : Str), v = .ref e ∧ d = entry adr w ∧ SqT K H e [.ref ad, .str w] ∧ SqT K H ad (adr.map V.int)) ∧ Ents K H vs ds
  | _, _ => False
section
variable {K : PySem.W.Frag} {H H' : Hp}
theorem ents_toI (e : ExI H H') : ∀ {vs : List V} {ds : List PyData}, Ents K H vs ds → Ents K H' vs ds
  | [], [], _ => trivial
  | _ :: _, _ :: _, ⟨⟨a, ad, adr, w, h1, h2, h3, h4⟩, t⟩ => ⟨⟨a, ad, adr, w, h1, h2, e.sq h3, e.sq h4⟩, ents_toI e t⟩
  | [], _ :: _, h => h.elim
  | _ :: _, [], h => h.elim
theorem ents_app : ∀ {vs ws : List V} {ds es : List PyData}, Ents K H vs ds → Ents K H ws es → Ents K H (vs ++ ws) (ds ++ es)
  | [], ws, [], es, _, h => h
  | _ :: _, ws, _ :: _, es, ⟨a, t⟩, h => ⟨a, ents_app t h⟩
  | [], _, _ :: _, _, h, _ => h.elim
  | _ :: _, _, [], _, h, _ => h.elim
theorem ents_len : ∀ {vs : List V} {ds : List PyData}, Ents K H vs ds → vs.length = ds.length
  | [], [], _ => rfl
  | _ :: _, _ :: _, ⟨_, t⟩ => by simp [ents_len t]
  | [], _ :: _, h => h.elim
  | _ :: _, [], h => h.elim
end
/-! ### runs, part by part -/
theorem runL_get (R : Str → V) : ∀ (cs : List Cnd) (adr : List Int) (i st : Int) (j : Nat) (c : Cnd), cs[j]? = some c → (runL R adr i st cs)[j]? = some (run R (adr ++ [i + j * st]) c)
  | [], _, _, _, _, _, h => by simp at h
  | a :: cs, adr, i, st, 0, c, h => by
    simp at h; subst h
    simp [runL]
  | a :: cs, adr, i, st, j + 1, c, h => by
    rw [runL, List.getElem?_cons_succ, runL_get R cs adr (i + st) st j c (by simpa using h)]
    rw [show i + st + (j : Int) * st = i + ((j + 1 : Nat) : Int) * st by rw [Int.natCast_add, Int.add_mul]; omega]
theorem runL_len (R : Str → V) : ∀ (cs : List Cnd) (adr : List Int) (i st : Int), (runL R adr i st cs).length = cs.length
  | [], _, _, _ => by simp [runL]
  | a :: cs, adr, i, st => by simp [runL, runL_len R cs]
theorem allOf_step {dec found : Str} {r : Res} {rs : List Res} {i : Nat} (h : rs[i]? = some r) :
    allOf dec found (rs.drop i) = if r.1 = "error" ∨ r.1 = dec then r else
      ((allOf dec (if r.1 = "unknown" then r.1 else found) (rs.drop (i + 1))).1, r.2 ++ (allOf dec (if r.1 = "unknown" then r.1 else found) (rs.drop (i + 1))).2) := by
  have e : rs.drop i = r :: rs.drop (i + 1) := by
    obtain ⟨h1, h2⟩ := List.getElem?_eq_some_iff.mp h
    rw [← h2]; exact List.drop_eq_getElem_cons h1
  rw [e, allOf]
theorem firstOf_step {r : Res} {rs : List Res} {i : Nat} (h : rs[i]? = some r) :
    firstOf (rs.drop i) = if r.1 = "unknown" then ((firstOf (rs.drop (i + 1))).1, r.2 ++ (firstOf (rs.drop (i + 1))).2) else r := by
  have e : rs.drop i = r :: rs.drop (i + 1) := by
    obtain ⟨h1, h2⟩ := List.getElem?_eq_some_iff.mp h
    rw [← h2]; exact List.drop_eq_getElem_cons h1
  rw [e, firstOf]
theorem caseOf_step {r t e : Res} {rs ts : List Res} {i : Nat} (h : rs[i]? = some r) (h' : ts[i]? = some t) :
    caseOf (rs.drop i) (ts.drop i) e = if r.1 = "error" then r else if r.1 = "yes" then (t.1, r.2 ++ t.2) else
      ((caseOf (rs.drop (i + 1)) (ts.drop (i + 1)) e).1, r.2 ++ (caseOf (rs.drop (i + 1)) (ts.drop (i + 1)) e).2) := by
  have e1 : rs.drop i = r :: rs.drop (i + 1) := by
    obtain ⟨h1, h2⟩ := List.getElem?_eq_some_iff.mp h
    rw [← h2]; exact List.drop_eq_getElem_cons h1
  have e2 : ts.drop i = t :: ts.drop (i + 1) := by
    obtain ⟨h1, h2⟩ := List.getElem?_eq_some_iff.mp h'
    rw [← h2]; exact List.drop_eq_getElem_cons h1
  rw [e1, e2, caseOf]
/-! ### what is answered is one of four words -/
theorem word_ite {c : Prop} [Decidable c] {a b : Str} (h : a ∈ words) (h' : b ∈ words) : (if c then a else b) ∈ words := by split <;> assumption
theorem w_yes : ("yes" : Str) ∈ words := by decide +kernel
theorem w_no : ("no" : Str) ∈ words := by decide +kernel
theorem w_unk : ("unknown" : Str) ∈ words := by decide +kernel
theorem w_err : ("error" : Str) ∈ words := by decide +kernel
theorem numV_word (x : V) : numV x ∈ words := by
  unfold numV
  split
  · exact w_unk
  · exact w_yes
  · exact w_no
theorem askV_word (ss : List Stp) (sg : Str) (k : Int) (x : V) : askV ss sg k x ∈ words := by
  cases x with
  | non => exact w_unk
  | int i =>
    cases e : leadAll ss i with
    | some m => rw [askV_some e]; exact word_ite w_yes w_no
    | none => rw [askV_none e]; exact w_err
  | _ => exact w_err
theorem leaf_word {R : Str → V} {ns : List Str} {l : Leaf} (h : l.ok ns) : leafAns R l ∈ words := by
  cases l with
  | always w => exact h
  | empty n => exact word_ite w_yes w_no
  | number n => exact numV_word _
  | asks n ss sg k => exact askV_word _ _ _ _
theorem allOf_word {dec : Str} : ∀ {rs : List Res} {found : Str}, (∀ r ∈ rs, r.1 ∈ words) → found ∈ words → (allOf dec found rs).1 ∈ words
  | [], _, _, h => h
  | r :: rs, found, h, h' => by
    have h1 := h r List.mem_cons_self
    have ih := allOf_word (dec := dec) (rs := rs) (found := if r.1 = "unknown" then r.1 else found) (fun z hz => h z (List.mem_cons_of_mem _ hz)) (word_ite h1 h')
    unfold allOf
    by_cases c : r.1 = "error" ∨ r.1 = dec
    · rw [if_pos c]; exact h1
    · rw [if_neg c]; exact ih
theorem firstOf_word : ∀ {rs : List Res}, (∀ r ∈ rs, r.1 ∈ words) → (firstOf rs).1 ∈ words
  | [], _ => w_unk
  | r :: rs, h => by
    have h1 := h r List.mem_cons_self
    have ih := firstOf_word (rs := rs) fun z hz => h z (List.mem_cons_of_mem _ hz)
    unfold firstOf
    by_cases c : r.1 = "unknown"
    · rw [if_pos c]; exact ih
    · rw [if_neg c]; exact h1
theorem caseOf_word : ∀ {rs ts : List Res} {e : Res}, (∀ r ∈ rs, r.1 ∈ words) → (∀ r ∈ ts, r.1 ∈ words) → e.1 ∈ words → (caseOf rs ts e).1 ∈ words
  | [], _, e, _, _, h => by unfold caseOf; exact h
  | _ :: _, [], e, _, _, h => by unfold caseOf; exact h
  | r :: rs, t :: ts, e, h, h', he => by
    have h1 := h r List.mem_cons_self
    have h2 := h' t List.mem_cons_self
    have ih := caseOf_word (rs := rs) (ts := ts) (e := e) (fun z hz => h z (List.mem_cons_of_mem _ hz)) (fun z hz => h' z (List.mem_cons_of_mem _ hz)) he
    unfold caseOf
    by_cases c : r.1 = "error"
    · rw [if_pos c]; exact h1
    · rw [if_neg c]
      by_cases y : r.1 = "yes"
      · rw [if_pos y]; exact h2
      · rw [if_neg y]; exact ih
mutual
theorem run_word {R : Str → V} {ns : List Str} : ∀ (c : Cnd) (a : List Int), c.ok ns → (run R a c).1 ∈ words
  | .leaf l, a, h => by simp only [run]; exact leaf_word h
  | .not c, a, h => by
    rw [Cnd.ok] at h
    simp only [run]
    exact word_exch (run_word c _ h)
  | .node k cs, a, h => by
    rw [Cnd.ok] at h
    simp only [run]
    have := runL_word (R := R) cs a 0 1 h.2
    unfold nodeOf
    split
    · exact firstOf_word this
    · split
      · exact allOf_word this w_yes
      · exact allOf_word this w_no
  | .case ws ts e, a, h => by
    rw [Cnd.ok] at h
    simp only [run]
    exact caseOf_word (runL_word ws a 0 2 h.2.1) (runL_word ts a 1 2 h.2.2.1) (run_word e _ h.2.2.2)
theorem runL_word {R : Str → V} {ns : List Str} : ∀ (cs : List Cnd) (a : List Int) (i st : Int), Cnd.okL ns cs → ∀ r ∈ runL R a i st cs, r.1 ∈ words
  | [], a, i, st, _, r, h => by simp [runL] at h
  | c :: cs, a, i, st, h, r, hr => by
    rw [Cnd.okL] at h
    rw [runL] at hr
    rcases List.mem_cons.mp hr with rfl | hr
    · exact run_word c _ h.1
    · exact runL_word cs a _ _ h.2 r hr
end
/-! ### how many are asked -/
def lenL (rs : List Res) : Nat := (rs.map fun r => r.2.length).sum
theorem allOf_len {dec : Str} : ∀ {rs : List Res} {found : Str}, (allOf dec found rs).2.length ≤ lenL rs
  | [], _ => Nat.le_refl _
  | r :: rs, found => by
    have ih := allOf_len (dec := dec) (rs := rs) (found := if r.1 = "unknown" then r.1 else found)
    unfold allOf
    unfold lenL at ih ⊢
    rw [List.map_cons, List.sum_cons]
    by_cases c : r.1 = "error" ∨ r.1 = dec
    · rw [if_pos c]; omega
    · rw [if_neg c, List.length_append]; omega
theorem firstOf_len : ∀ {rs : List Res}, (firstOf rs).2.length ≤ lenL rs
  | [] => Nat.le_refl _
  | r :: rs => by
    have ih := firstOf_len (rs := rs)
    unfold firstOf
    unfold lenL at ih ⊢
    rw [List.map_cons, List.sum_cons]
    by_cases c : r.1 = "unknown"
    · rw [if_pos c, List.length_append]; omega
    · rw [if_neg c]; omega
theorem caseOf_len : ∀ {rs ts : List Res} {e : Res}, (caseOf rs ts e).2.length ≤ lenL rs + lenL ts + e.2.length
  | [], ts, e => by unfold caseOf; omega
  | _ :: _, [], e => by unfold caseOf; omega
  | r :: rs, t :: ts, e => by
    have ih := caseOf_len (rs := rs) (ts := ts) (e := e)
    unfold caseOf
    unfold lenL at ih ⊢
    rw [List.map_cons, List.sum_cons, List.map_cons, List.sum_cons]
    by_cases c : r.1 = "error"
    · rw [if_pos c]; omega
    · rw [if_neg c]
      by_cases y : r.1 = "yes"
      · rw [if_pos y, List.length_append]; omega
      · rw [if_neg y, List.length_append]; omega
mutual
theorem run_len (R : Str → V) : ∀ (c : Cnd) (a : List Int), (run R a c).2.length ≤ c.weight
  | .leaf l, a => by simp only [run, Cnd.weight]; show 1 ≤ 200000; decide
  | .not c, a => by
    have := run_len R c (a ++ [0])
    simp only [run, Cnd.weight]
    omega
  | .node k cs, a => by
    have := runL_lenL R cs a 0 1
    simp only [run, Cnd.weight]
    unfold nodeOf
    split
    · have := firstOf_len (rs := runL R a 0 1 cs); omega
    · split
      · have := allOf_len (dec := "no") (rs := runL R a 0 1 cs) (found := "yes"); omega
      · have := allOf_len (dec := "yes") (rs := runL R a 0 1 cs) (found := "no"); omega
  | .case ws ts e, a => by
    have h1 := runL_lenL R ws a 0 2
    have h2 := runL_lenL R ts a 1 2
    have h3 := run_len R e (a ++ [2 * (ws.length : Int)])
    have := caseOf_len (rs := runL R a 0 2 ws) (ts := runL R a 1 2 ts) (e := run R (a ++ [2 * (ws.length : Int)]) e)
    simp only [run, Cnd.weight]
    omega
theorem runL_lenL (R : Str → V) : ∀ (cs : List Cnd) (a : List Int) (i st : Int), lenL (runL R a i st cs) ≤ Cnd.weightL cs
  | [], a, i, st => by simp only [runL, Cnd.weightL]; exact Nat.le_refl _
  | c :: cs, a, i, st => by
    have h1 := run_len R c (a ++ [i])
    have h2 := runL_lenL R cs a (i + st) st
    rw [runL, Cnd.weightL]
    unfold lenL at h2 ⊢
    rw [List.map_cons, List.sum_cons]
    omega
end
theorem weightL_snoc : ∀ (cs : List Cnd) (c : Cnd), Cnd.weightL (cs ++ [c]) = Cnd.weightL cs + c.weight + 20
  | [], c => by simp [Cnd.weightL]
  | a :: cs, c => by simp only [List.cons_append, Cnd.weightL, weightL_snoc cs c]; omega
theorem weightL_take : ∀ (cs : List Cnd) (i : Nat), Cnd.weightL (cs.take i) ≤ Cnd.weightL cs
  | [], i => by simp
  | c :: cs, 0 => by simp [Cnd.weightL]
  | c :: cs, i + 1 => by simp only [List.take_succ_cons, Cnd.weightL]; have := weightL_take cs i; omega
theorem weightL_step {cs : List Cnd} {i : Nat} {c : Cnd} (h : cs[i]? = some c) : Cnd.weightL (cs.take (i + 1)) = Cnd.weightL (cs.take i) + c.weight + 20 ∧
    Cnd.weightL (cs.take i) + c.weight + 20 ≤ Cnd.weightL cs := by
  have e : Cnd.weightL (cs.take (i + 1)) = Cnd.weightL (cs.take i) + c.weight + 20 := by rw [takeS h, weightL_snoc]
  exact ⟨e, by rw [← e]; exact weightL_take _ _⟩
/-- an address, one step longer -/
theorem cat_adr {K : PySem.W.Frag} {H : Hp} {ad t : Addr} {adr : List Int} {i : Int} {Q : VK} (h1 : SqT K H ad (adr.map V.int)) (h2 : SqT K H t [.int i])
    (sz : adr.length ≤ 100000) (k : ∀ p H', Ex H H' → SqT K H' p ((adr ++ [i]).map V.int) → Q (.ref p) H') : rCatA K (.ref ad) (.ref t) H Q := by
  refine ⟨ad, t, _, _, rfl, rfl, h1, h2, ?_, fun h => ?_, fun _ h => (by cases h), fun _ _ p np => ?_⟩
  · rw [List.length_map]
    exact Nat.le_trans (show adr.length + 1 ≤ 100001 by omega) (by decide)
  · have : adr = [] := List.map_eq_nil_iff.mp h
    subst this
    exact k t H (Ex.refl H) h2
  · refine k p _ (Ex.new np) ?_
    rw [List.map_append]
    exact SqT.of upd_same
theorem inV2 (x a b : Str) : inV (.str x) [.str a, .str b] = true ↔ x = a ∨ x = b := by
  have e : inV (.str x) [.str a, .str b] = (a == x || b == x) := by simp [inV, eqV]
  rw [e, Bool.or_eq_true, beq_iff_eq, beq_iff_eq]
  exact ⟨fun h => h.imp Eq.symm Eq.symm, fun h => h.imp Eq.symm Eq.symm⟩
end Gx

set_option Elab.async false
set_option linter.all false
set_option maxRecDepth 100000
set_option maxHeartbeats 4000000
/-! What a condition answers by a plan: orders, every part asked or not, unknown taken for no or not. -/
namespace Gx
open PySem PySem.Spec PyProof.Rows L2 Evl
structure Md where
  ev : Bool
  lo : Bool
  ord : List Int → Option (List Nat)
def Md0 : Md := ⟨false, false, fun _ => none⟩
def Md.order (M : Md) (adr : List Int) (n : Nat) : List Nat := (M.ord adr).getD (List.range n)
def low (M : Md) (pl : Bool) (r : Res) : Res := (if (M.lo && pl && decide (r.1 = "unknown")) = true then "no" else r.1, r.2)
def decOf (k : Str) : Str := if k = "all" then "no" else "yes"
def endOf (dec : Str) (f : List Str) : Str := if dec ∈ f then dec else if ("unknown" : Str) ∈ f then "unknown" else exch dec
def goNode (dec : Str) (ev : Bool) : List Str → List Res → Res
  | f, [] => (endOf dec f, [])
  | f, r :: rs => if r.1 = "error" ∨ (r.1 = dec ∧ ev = false) then r else ((goNode dec ev (f ++ [r.1]) rs).1, r.2 ++ (goNode dec ev (f ++ [r.1]) rs).2)
def pick (rs : List Res) (o : List Nat) : List Res := o.filterMap fun i => rs[i]?
def nodeG (M : Md) (k : Str) (rs rs' : List Res) (o : List Nat) : Res := if k = "first" then firstOf rs' else goNode (decOf k) M.ev [] (pick rs o)
mutual
def rung (M : Md) (R : Str → V) : List Int → Bool → Cnd → Res
  | adr, pl, .leaf l => low M pl (leafAns R l, [entry adr (leafAns R l)])
  | adr, pl, .not c => low M pl (exch (rung M R (adr ++ [0]) false c).1, (rung M R (adr ++ [0]) false c).2)
  | adr, pl, .node k cs => low M pl (nodeG M k (rungL M R adr 0 1 pl cs) (rungL M R adr 0 1 false cs) (M.order adr cs.length))
  | adr, pl, .case ws ts e => low M pl (caseOf (rungL M R adr 0 2 true ws) (rungL M R adr 1 2 pl ts) (rung M R (adr ++ [2 * (ws.length : Int)]) pl e))
def rungL (M : Md) (R : Str → V) : List Int → Int → Int → Bool → List Cnd → List Res
  | _, _, _, _, [] => []
  | adr, i, st, pl, c :: cs => rung M R (adr ++ [i]) pl c :: rungL M R adr (i + st) st pl cs
end
theorem low0 (pl : Bool) (r : Res) : low Md0 pl r = r := by
  unfold low Md0
  rfl
theorem pick_range (rs : List Res) : pick rs (List.range rs.length) = rs := by
  unfold pick
  induction rs with
  | nil => rfl
  | cons r rs ih =>
    rw [List.length_cons, List.range_succ_eq_map, List.filterMap_cons, List.getElem?_cons_zero, List.filterMap_map]
    show r :: List.filterMap (fun i => (r :: rs)[i + 1]?) (List.range rs.length) = r :: rs
    simp only [List.getElem?_cons_succ]
    rw [ih]
theorem goNode_all {dec : Str} (hd : dec ≠ "unknown") : ∀ (rs : List Res) (f : List Str), dec ∉ f →
    goNode dec false f rs = allOf dec (if ("unknown" : Str) ∈ f then "unknown" else exch dec) rs
  | [], f, h => by
    unfold goNode allOf endOf
    rw [if_neg h]
  | r :: rs, f, h => by
    unfold goNode allOf
    by_cases e : r.1 = "error" ∨ r.1 = dec
    · rw [if_pos (e.imp id fun z => ⟨z, rfl⟩), if_pos e]
    · have e' : ¬ (r.1 = "error" ∨ (r.1 = dec ∧ false = false)) := fun z => e (z.imp id fun q => q.1)
      have h' : dec ∉ f ++ [r.1] := by
        rw [List.mem_append, List.mem_singleton]
        exact fun z => z.elim h fun q => e (.inr q.symm)
      rw [if_neg e', if_neg e, goNode_all hd rs _ h']
      have : (if ("unknown" : Str) ∈ f ++ [r.1] then ("unknown" : Str) else exch dec) = (if r.1 = "unknown" then r.1 else if ("unknown" : Str) ∈ f then "unknown" else exch dec) := by
        by_cases u : r.1 = "unknown"
        · rw [if_pos u, if_pos (by rw [u]; simp), u]
        · rw [if_neg u]
          by_cases v : ("unknown" : Str) ∈ f
          · rw [if_pos v, if_pos (List.mem_append_left _ v)]
          · rw [if_neg v, if_neg]
            rw [List.mem_append, List.mem_singleton]
            exact fun z => z.elim v fun q => u q.symm
      rw [this]
theorem ex_no : exch "no" = "yes" := by decide +kernel
theorem ex_yes : exch "yes" = "no" := by decide +kernel
theorem no_unk : ("no" : Str) ≠ "unknown" := by decide +kernel
theorem yes_unk : ("yes" : Str) ≠ "unknown" := by decide +kernel
theorem yes_all : ¬ ("yes" : Str) = "all" := by decide +kernel
mutual
theorem rung_plain (R : Str → V) : ∀ (c : Cnd) (adr : List Int) (pl : Bool), rung Md0 R adr pl c = run R adr c
  | .leaf l, adr, pl => by rw [rung, run, low0]
  | .not c, adr, pl => by rw [rung, run, low0, rung_plain R c]
  | .node k cs, adr, pl => by
    rw [rung, run, low0, rungL_plain R cs, rungL_plain R cs]
    unfold nodeG nodeOf
    have e : Md0.order adr cs.length = List.range (runL R adr 0 1 cs).length := by rw [runL_len]; rfl
    rw [e, pick_range]
    by_cases h : k = "first"
    · rw [if_pos h, if_pos h]
    · rw [if_neg h, if_neg h]
      unfold decOf
      by_cases h2 : k = "all"
      · rw [if_pos h2, if_pos h2]
        show goNode "no" false [] _ = _
        rw [goNode_all no_unk _ _ List.not_mem_nil, if_neg List.not_mem_nil, ex_no]
      · rw [if_neg h2, if_neg h2]
        show goNode "yes" false [] _ = _
        rw [goNode_all yes_unk _ _ List.not_mem_nil, if_neg List.not_mem_nil, ex_yes]
  | .case ws ts e, adr, pl => by rw [rung, run, low0, rungL_plain R ws, rungL_plain R ts, rung_plain R e]
theorem rungL_plain (R : Str → V) : ∀ (cs : List Cnd) (adr : List Int) (i st : Int) (pl : Bool), rungL Md0 R adr i st pl cs = runL R adr i st cs
  | [], _, _, _, _ => by rw [rungL, runL]
  | c :: cs, adr, i, st, pl => by rw [rungL, runL, rung_plain R c, rungL_plain R cs]
end
theorem rungL_get (M : Md) (R : Str → V) : ∀ (cs : List Cnd) (adr : List Int) (i st : Int) (pl : Bool) (j : Nat) (c : Cnd), cs[j]? = some c →
    (rungL M R adr i st pl cs)[j]? = some (rung M R (adr ++ [i + j * st]) pl c)
  | [], _, _, _, _, _, _, h => by simp at h
  | a :: cs, adr, i, st, pl, 0, c, h => by
    simp at h; subst h
    simp [rungL]
  | a :: cs, adr, i, st, pl, j + 1, c, h => by
    rw [rungL, List.getElem?_cons_succ, rungL_get M R cs adr (i + st) st pl j c (by simpa using h)]
    rw [show i + st + (j : Int) * st = i + ((j + 1 : Nat) : Int) * st by rw [Int.natCast_add, Int.add_mul]; omega]
theorem rungL_len (M : Md) (R : Str → V) : ∀ (cs : List Cnd) (adr : List Int) (i st : Int) (pl : Bool), (rungL M R adr i st pl cs).length = cs.length
  | [], _, _, _, _ => by simp [rungL]
  | a :: cs, adr, i, st, pl => by simp [rungL, rungL_len M R cs]
/-- the orders of a plan are of parts that there are -/
def OrdAt (M : Md) (adr : List Int) (n : Nat) : Prop := ∀ o, M.ord adr = some o → (∀ i ∈ o, i < n) ∧ o.Nodup
mutual
def OrdOk (M : Md) : List Int → Cnd → Prop
  | _, .leaf _ => True
  | adr, .not c => OrdOk M (adr ++ [0]) c
  | adr, .node _ cs => OrdAt M adr cs.length ∧ OrdOkL M adr 0 1 cs
  | adr, .case ws ts e => OrdOkL M adr 0 2 ws ∧ OrdOkL M adr 1 2 ts ∧ OrdOk M (adr ++ [2 * (ws.length : Int)]) e
def OrdOkL (M : Md) : List Int → Int → Int → List Cnd → Prop
  | _, _, _, [] => True
  | adr, i, st, c :: cs => OrdOk M (adr ++ [i]) c ∧ OrdOkL M adr (i + st) st cs
end
theorem ordL_get {M : Md} : ∀ {cs : List Cnd} {adr : List Int} {i st : Int} {j : Nat} {c : Cnd}, OrdOkL M adr i st cs → cs[j]? = some c → OrdOk M (adr ++ [i + j * st]) c
  | [], _, _, _, _, _, _, h => by simp at h
  | a :: cs, adr, i, st, 0, c, ⟨h1, _⟩, h => by
    simp at h; subst h
    simpa using h1
  | a :: cs, adr, i, st, j + 1, c, ⟨_, h2⟩, h => by
    have := ordL_get h2 (j := j) (by simpa using h)
    rwa [show i + st + (j : Int) * st = i + ((j + 1 : Nat) : Int) * st by rw [Int.natCast_add, Int.add_mul]; omega] at this
mutual
theorem ord0 : ∀ (c : Cnd) (adr : List Int), OrdOk Md0 adr c
  | .leaf _, _ => by rw [OrdOk]; trivial
  | .not c, adr => by rw [OrdOk]; exact ord0 c _
  | .node _ cs, adr => by rw [OrdOk]; exact ⟨fun o h => (nomatch h), ordL0 cs _ _ _⟩
  | .case ws ts e, adr => by rw [OrdOk]; exact ⟨ordL0 ws _ _ _, ordL0 ts _ _ _, ord0 e _⟩
theorem ordL0 : ∀ (cs : List Cnd) (adr : List Int) (i st : Int), OrdOkL Md0 adr i st cs
  | [], _, _, _ => by rw [OrdOkL]; trivial
  | c :: cs, adr, i, st => by rw [OrdOkL]; exact ⟨ord0 c _, ordL0 cs _ _ _⟩
end
theorem goNode_step {dec : Str} {ev : Bool} {f : List Str} {r : Res} {rs : List Res} {i : Nat} (h : rs[i]? = some r) :
    goNode dec ev f (rs.drop i) = if r.1 = "error" ∨ (r.1 = dec ∧ ev = false) then r else
      ((goNode dec ev (f ++ [r.1]) (rs.drop (i + 1))).1, r.2 ++ (goNode dec ev (f ++ [r.1]) (rs.drop (i + 1))).2) := by
  have e : rs.drop i = r :: rs.drop (i + 1) := by
    obtain ⟨h1, h2⟩ := List.getElem?_eq_some_iff.mp h
    rw [← h2]; exact List.drop_eq_getElem_cons h1
  rw [e, goNode]
theorem pick_all : ∀ {o : List Nat} {rs : List Res}, (∀ i ∈ o, i < rs.length) → (pick rs o).length = o.length ∧ ∀ (j i : Nat), o[j]? = some i → (pick rs o)[j]? = rs[i]?
  | [], rs, _ => ⟨rfl, fun j i h => by simp at h⟩
  | a :: o, rs, h => by
    have ha : a < rs.length := h a List.mem_cons_self
    have e : rs[a]? = some rs[a] := List.getElem?_eq_getElem ha
    obtain ⟨l, g⟩ := pick_all (o := o) (rs := rs) fun i hi => h i (List.mem_cons_of_mem _ hi)
    have p : pick rs (a :: o) = rs[a] :: pick rs o := by
      unfold pick
      rw [List.filterMap_cons, e]
    rw [p]
    refine ⟨by rw [List.length_cons, List.length_cons, l], fun j i hj => ?_⟩
    cases j with
    | zero => simp at hj; subst hj; rw [e]; rfl
    | succ j => rw [List.getElem?_cons_succ]; exact g j i (by simpa using hj)
/-! ### words and lengths -/
theorem low_word {M : Md} {pl : Bool} {r : Res} (h : r.1 ∈ words) : (low M pl r).1 ∈ words := by
  unfold low
  exact word_ite w_no h
theorem goNode_word {dec : Str} {ev : Bool} (hd : dec ∈ words) : ∀ {rs : List Res} {f : List Str}, (∀ r ∈ rs, r.1 ∈ words) → (goNode dec ev f rs).1 ∈ words
  | [], f, _ => by
    unfold goNode endOf
    exact word_ite hd (word_ite w_unk (word_exch hd))
  | r :: rs, f, h => by
    unfold goNode
    split
    · exact h r List.mem_cons_self
    · exact goNode_word hd fun q hq => h q (List.mem_cons_of_mem _ hq)
theorem mem_pick {rs : List Res} {o : List Nat} {r : Res} (h : r ∈ pick rs o) : r ∈ rs := by
  unfold pick at h
  obtain ⟨i, _, e⟩ := List.mem_filterMap.mp h
  exact List.mem_of_getElem? e
theorem dec_word (k : Str) : decOf k ∈ words := word_ite w_no w_yes
mutual
theorem rung_word {M : Md} {R : Str → V} {ns : List Str} : ∀ (c : Cnd) (a : List Int) (pl : Bool), c.ok ns → (rung M R a pl c).1 ∈ words
  | .leaf l, a, pl, h => by
    rw [rung]
    exact low_word (leaf_word (by rw [Cnd.ok] at h; exact h))
  | .not c, a, pl, h => by
    rw [rung]
    exact low_word (word_exch (rung_word c _ _ (by rw [Cnd.ok] at h; exact h)))
  | .node k cs, a, pl, h => by
    rw [Cnd.ok] at h
    rw [rung]
    refine low_word ?_
    unfold nodeG
    split
    · exact firstOf_word (rungL_word cs _ _ _ _ h.2)
    · exact goNode_word (dec_word k) fun r hr => rungL_word cs _ _ _ _ h.2 r (mem_pick hr)
  | .case ws ts e, a, pl, h => by
    rw [Cnd.ok] at h
    rw [rung]
    exact low_word (caseOf_word (rungL_word ws _ _ _ _ h.2.1) (rungL_word ts _ _ _ _ h.2.2.1) (rung_word e _ _ h.2.2.2))
theorem rungL_word {M : Md} {R : Str → V} {ns : List Str} : ∀ (cs : List Cnd) (a : List Int) (i st : Int) (pl : Bool), Cnd.okL ns cs → ∀ r ∈ rungL M R a i st pl cs, r.1 ∈ words
  | [], _, _, _, _, _, r, hr => by rw [rungL] at hr; cases hr
  | c :: cs, a, i, st, pl, h, r, hr => by
    rw [Cnd.okL] at h
    rw [rungL] at hr
    rcases List.mem_cons.mp hr with rfl | hr
    · exact rung_word c _ _ h.1
    · exact rungL_word cs _ _ _ _ h.2 r hr
end
/-- an address, one step longer: a tuple of its own -/
theorem cat_tup {K : PySem.W.Frag} {H : Hp} {ad t : Addr} {adr : List Int} {i : Int} {Q : VK} (h1 : H ad = some (.tup (adr.map V.int))) (h2 : H t = some (.tup [.int i]))
    (sz : adr.length ≤ 100000) (k : ∀ p H', Ex H H' → H' p = some (.tup ((adr ++ [i]).map V.int)) → Q (.ref p) H') : rCatA K (.ref ad) (.ref t) H Q := by
  refine ⟨ad, t, _, _, rfl, rfl, SqT.of h1, SqT.of h2, ?_, fun h => ?_, fun _ h => (by cases h), fun _ _ p np => ?_⟩
  · rw [List.length_map]
    exact Nat.le_trans (show adr.length + 1 ≤ 100001 by omega) (by decide)
  · have : adr = [] := List.map_eq_nil_iff.mp h
    subst this
    exact k t H (Ex.refl H) h2
  · refine k p _ (Ex.new np) ?_
    rw [List.map_append]
    exact upd_same
end Gx

set_option Elab.async false
set_option linter.all false
set_option maxRecDepth 100000
set_option maxHeartbeats 4000000
/-! Own classes: what the head tells of a method, of a class. -/
namespace Gx
open PySem PySem.Spec PyProof.Rows L2 Evl
structure MDef (K : PySem.W.Frag) (C : Addr) (m qual : Str) (st : Stmt) (f : Addr) (fd : FuncData) (ps : List Str) : Prop where
  fn : Fun K m qual st f fd
  mt : Meth K C m f
  bd : Binds K fd ps []
theorem mdef_mk {K : PySem.W.Frag} {C : Addr} {m qual : Str} {st : Stmt} {f : Addr} {ps : List Str}
    (a : PySem.W.findIn K (.ref C) m = some (some (.ref f))) (i : PySem.W.isFn K (.ref f) = true) (d : IsDef K m qual st f)
    (hb : ∀ (kV doc pm : Value) (an : Option Addr) (cdv ct : Value) (us : List Value), us.length = ps.length →
      bindArgs (PySem.W.fnOf m qual (defArgs st) (defBody st) (defScope st) .none kV doc pm an cdv ct) ⟨us, []⟩ = pure (ps.zip us)) :
    ∃ fd, MDef K C m qual st f fd ps := by
  have kp : PySem.W.keepIn K (.ref f) = true := by obtain ⟨_, _, _, _, _, _, _, _, _, _, _, k⟩ := d; exact k
  obtain ⟨fd, F⟩ := d.fn
  exact ⟨fd, F, ⟨a, i, kp⟩, F.binds hb⟩
/-! ### the one who asks: its fields -/
structure AskerT (K : PySem.W.Frag) (mg : Str → Option Value) (C fI : Addr) : Prop where
  cl : Cls K C
  mak : Mk K C fI
  gC : mg "Asker" = some (.ref C)
  row : NoAttr K C "row"
  plan : NoAttr K C "plan"
  every : NoAttr K C "every"
  lowers : NoAttr K C "lowers"
  trail : NoAttr K C "trail"
def askF (r d : Addr) (ev lo : Bool) (tr : Addr) : List (Str × V) := [("row", .ref r), ("plan", .ref d), ("every", .bl ev), ("lowers", .bl lo), ("trail", .ref tr)]
section
variable {r d tr : Addr} {ev lo : Bool}
theorem ask_row : (askF r d ev lo tr).lookup ("row" : Str) = some (.ref r) := by unfold askF; simp [List.lookup]
theorem ask_plan : (askF r d ev lo tr).lookup ("plan" : Str) = some (.ref d) := by
  unfold askF
  have e1 : (("plan" : Str) == "row") = false := by decide +kernel
  have e2 : (("plan" : Str) == "plan") = true := by decide +kernel
  simp only [List.lookup, e1, e2]
theorem ask_every : (askF r d ev lo tr).lookup ("every" : Str) = some (.bl ev) := by
  unfold askF
  have e1 : (("every" : Str) == "row") = false := by decide +kernel
  have e2 : (("every" : Str) == "plan") = false := by decide +kernel
  have e3 : (("every" : Str) == "every") = true := by decide +kernel
  simp only [List.lookup, e1, e2, e3]
theorem ask_lowers : (askF r d ev lo tr).lookup ("lowers" : Str) = some (.bl lo) := by
  unfold askF
  have e1 : (("lowers" : Str) == "row") = false := by decide +kernel
  have e2 : (("lowers" : Str) == "plan") = false := by decide +kernel
  have e3 : (("lowers" : Str) == "every") = false := by decide +kernel
  have e4 : (("lowers" : Str) == "lowers") = true := by decide +kernel
  simp only [List.lookup, e1, e2, e3, e4]
theorem ask_trail : (askF r d ev lo tr).lookup ("trail" : Str) = some (.ref tr) := by
  unfold askF
  have e1 : (("trail" : Str) == "row") = false := by decide +kernel
  have e2 : (("trail" : Str) == "plan") = false := by decide +kernel
  have e3 : (("trail" : Str) == "every") = false := by decide +kernel
  have e4 : (("trail" : Str) == "lowers") = false := by decide +kernel
  have e5 : (("trail" : Str) == "trail") = true := by decide +kernel
  simp only [List.lookup, e1, e2, e3, e4, e5]
def askNames : List Str := ["row", "plan", "every", "lowers", "trail"]
theorem ask_no {m : Str} (h : m ∉ askNames) : (askF r d ev lo tr).lookup m = none := by
  unfold askNames at h
  simp only [List.mem_cons, List.not_mem_nil, or_false, not_or] at h
  obtain ⟨h1, h2, h3, h4, h5⟩ := h
  have e : ∀ {x y : Str}, x ≠ y → (x == y) = false := fun h => beq_false_of_ne h
  unfold askF
  simp only [List.lookup, e h1, e h2, e h3, e h4, e h5]
theorem ask_puts (x1 x2 x3 x4 x5 : V) : putF "trail" x5 (putF "lowers" x4 (putF "every" x3 (putF "plan" x2 (putF "row" x1 [])))) =
    [(("row" : Str), x1), ("plan", x2), ("every", x3), ("lowers", x4), ("trail", x5)] := by
  have e1 : ¬ ("row" : Str) = "plan" := by decide +kernel
  have e2 : ¬ ("row" : Str) = "every" := by decide +kernel
  have e3 : ¬ ("row" : Str) = "lowers" := by decide +kernel
  have e4 : ¬ ("row" : Str) = "trail" := by decide +kernel
  have e5 : ¬ ("plan" : Str) = "every" := by decide +kernel
  have e6 : ¬ ("plan" : Str) = "lowers" := by decide +kernel
  have e7 : ¬ ("plan" : Str) = "trail" := by decide +kernel
  have e8 : ¬ ("every" : Str) = "lowers" := by decide +kernel
  have e9 : ¬ ("every" : Str) = "trail" := by decide +kernel
  have e0 : ¬ ("lowers" : Str) = "trail" := by decide +kernel
  simp only [putF, e1, e2, e3, e4, e5, e6, e7, e8, e9, e0, if_false]
end
theorem putF_le {f : Str} {v : V} {fs : List (Str × V)} {n : Nat} (h : fs.length ≤ n) : (putF f v fs).length ≤ n + 1 :=
  Nat.le_trans (length_putF _ _ _) (Nat.succ_le_succ h)
theorem lt1000 {n m : Nat} (h : n ≤ m) (h2 : m ≤ 50) : n < 1000 := by omega
/-- a plan's dict: the orders of addresses -/
def PlanAt (H : Hp) (d : Addr) (M : Md) (tr : Addr) : Prop := ∃ kvs : List (List Key × V), H d = some (.dT kvs) ∧
  ∀ adr : List Int, match M.ord adr with
    | none => valV kvs (adr.map Sum.inl) = none
    | some o => ∃ p : Addr, valV kvs (adr.map Sum.inl) = some (.ref p) ∧ H p = some (.lst (o.map fun i : Nat => V.int i)) ∧ p ≠ tr
theorem PlanAt.to {H H' : Hp} {d tr : Addr} {M : Md} {ts : List V} (h : PlanAt H d M tr) (e : ExB tr H H') (ht : H tr = some (.lst ts)) : PlanAt H' d M tr := by
  obtain ⟨kvs, h1, h2⟩ := h
  refine ⟨kvs, e _ _ (fun z => by subst z; rw [ht] at h1; cases h1) h1, fun adr => ?_⟩
  have h2 := h2 adr
  cases q : M.ord adr with
  | none => rw [q] at h2; exact h2
  | some o =>
    rw [q] at h2
    obtain ⟨p, h3, h4, h5⟩ := h2
    exact ⟨p, h3, e _ _ h5 h4, h5⟩
theorem plan0 {H : Hp} {d tr : Addr} (h : H d = some (.dT [])) : PlanAt H d Md0 tr := ⟨[], h, fun adr => rfl⟩
/-! ### what different parts weigh together -/
theorem sum_diff (f : Nat → Nat) : ∀ (n : Nat) (o : List Nat), o.Nodup → (∀ i ∈ o, i < n) → (o.map f).sum ≤ ((List.range n).map f).sum
  | 0, o, _, h => by
    cases o with
    | nil => simp
    | cons a o => exact absurd (h a List.mem_cons_self) (Nat.not_lt_zero _)
  | n + 1, o, nd, h => by
    have ih := sum_diff f n (o.filter fun i => decide (i ≠ n)) (nd.filter _) fun i hi => by
      obtain ⟨h1, h2⟩ := List.mem_filter.mp hi
      have := h i h1
      have := of_decide_eq_true h2
      omega
    have : ∀ l : List Nat, l.Nodup → (l.map f).sum ≤ ((l.filter fun i => decide (i ≠ n)).map f).sum + f n := by
      intro l
      induction l with
      | nil => intro _; simp
      | cons a l ihl =>
        intro nd
        obtain ⟨n1, n2⟩ := List.nodup_cons.mp nd
        by_cases e : a = n
        · subst e
          have : l.filter (fun i => decide (i ≠ a)) = l := List.filter_eq_self.mpr fun i hi => decide_eq_true fun z => n1 (z ▸ hi)
          rw [List.filter_cons_of_neg (by simp), this, List.map_cons, List.sum_cons]
          omega
        · rw [List.filter_cons_of_pos (by simp [e]), List.map_cons, List.map_cons, List.sum_cons, List.sum_cons]
          have := ihl n2
          omega
    have := this o nd
    rw [List.range_succ, List.map_append, List.sum_append]
    simp only [List.map_cons, List.map_nil, List.sum_cons, List.sum_nil]
    omega
def wAt (cs : List Cnd) (i : Nat) : Nat := match cs[i]? with | some c => c.weight | none => 0
theorem wAt_sum : ∀ cs : List Cnd, ((List.range cs.length).map (wAt cs)).sum ≤ Cnd.weightL cs
  | [] => by simp
  | c :: cs => by
    rw [List.length_cons, List.range_succ_eq_map, List.map_cons, List.sum_cons, List.map_map, Cnd.weightL]
    have e : (wAt (c :: cs) ∘ Nat.succ) = wAt cs := by funext i; simp [wAt]
    have e0 : wAt (c :: cs) 0 = c.weight := rfl
    rw [e, e0]
    have := wAt_sum cs
    omega
end Gx
namespace Gx
theorem nodup_len {n : Nat} {o : List Nat} (nd : o.Nodup) (h : ∀ i ∈ o, i < n) : o.length ≤ n := by
  have e : ∀ l : List Nat, (l.map fun _ => 1).sum = l.length := by
    intro l
    induction l with
    | nil => rfl
    | cons a l ih => rw [List.map_cons, List.sum_cons, ih, List.length_cons]; omega
  have := sum_diff (fun _ => 1) n o nd h
  rw [e, e, List.length_range] at this
  exact this
end Gx
namespace Gx
open PySem PySem.Spec PyProof.Rows L2 Evl
theorem flat_strs (f : List Str) : (f.map V.str).all flatV = true := by
  rw [List.all_eq_true]
  intro x hx
  obtain ⟨y, _, rfl⟩ := List.mem_map.mp hx
  rfl
theorem inV_strs (x : Str) (f : List Str) : inV (.str x) (f.map V.str) = decide (x ∈ f) := by
  unfold inV
  rw [List.any_map]
  by_cases h : x ∈ f
  · rw [decide_eq_true h, List.any_eq_true]
    exact ⟨x, h, by simp [eqV]⟩
  · rw [decide_eq_false h, List.any_eq_false]
    intro y hy e
    have e : (y == x) = true := e
    rw [beq_iff_eq] at e
    exact h (e ▸ hy)
end Gx

set_option Elab.async false
set_option linter.all false
set_option maxRecDepth 100000
set_option maxHeartbeats 4000000
namespace K26
open PySem PySem.Spec PyProof.Rows L2 Evl Gx
abbrev s_Asker___init : Stmt := inClass (topS 22) 0
theorem sc_Asker___init : FnScope ["self", "row", "plan", "every", "lowers"] ["self", "row", "plan", "every", "lowers"] (defScope s_Asker___init) := ⟨rfl, rfl, rfl, by decide +kernel, rfl, by decide +kernel, by decide +kernel⟩
abbrev s_Asker__node_said : Stmt := inClass (topS 22) 2
theorem sc_Asker__node_said : FnScope ["self", "condition", "address", "plain", "decisive", "found", "index", "said", "word"] ["self", "condition", "address", "plain"] (defScope s_Asker__node_said) := ⟨rfl, rfl, rfl, by decide +kernel, rfl, by decide +kernel, by decide +kernel⟩
abbrev s_Asker__case_said : Stmt := inClass (topS 22) 3
theorem sc_Asker__case_said : FnScope ["self", "condition", "address", "plain", "_", "pairs", "otherwise", "index", "when", "then", "said"] ["self", "condition", "address", "plain"] (defScope s_Asker__case_said) := ⟨rfl, rfl, rfl, by decide +kernel, rfl, by decide +kernel, by decide +kernel⟩
abbrev s_Asker__first_said : Stmt := inClass (topS 22) 4
theorem sc_Asker__first_said : FnScope ["self", "condition", "address", "index", "part", "said"] ["self", "condition", "address"] (defScope s_Asker__first_said) := ⟨rfl, rfl, rfl, by decide +kernel, rfl, by decide +kernel, by decide +kernel⟩
abbrev s_Asker_said : Stmt := inClass (topS 22) 1
theorem sc_Asker_said : FnScope ["self", "condition", "address", "plain", "kind", "found"] ["self", "condition", "address", "plain"] (defScope s_Asker_said) := ⟨rfl, rfl, rfl, by decide +kernel, rfl, by decide +kernel, by decide +kernel⟩
structure AskPre (K : PySem.W.Frag) (C : Addr) (H : Hp) (M : Md) (c : Cnd) (ns : List Str) (R : Str → V) (ad : Addr) (adr : List Int) (s dx r d tr : Addr) (ts : List V) : Prop where
  ok : c.ok ns
  at_ : H ad = some (.tup (adr.map V.int))
  row : RowAt H r ns R
  ob : H s = some (.ins C dx (askF r d M.ev M.lo tr))
  pl : PlanAt H d M tr
  ord : OrdOk M adr c
  tr : H tr = some (.lst ts)
  few : ts.length + c.weight ≤ 16000000
  deep : adr.length + c.depth ≤ 1000
def AskPost (K : PySem.W.Frag) (H : Hp) (tr : Addr) (ts : List V) (Q : VK) (c : Cnd) (res : Res) : Prop :=
  ∀ H' more, ExB tr H H' → H' tr = some (.lst (ts ++ more)) → Ents K H' more res.2 → more.length ≤ c.weight → Q (.str res.1) H'
def spSaid (K : PySem.W.Frag) (C : Addr) (n : Nat) : Sp := fun vs H Q _ => ∃ v M c ns R ad adr s dx r d tr ts pl, vs = [.ref s, v, .ref ad, .bl pl] ∧ CndAt K H v c ∧ c.depth < n ∧
  AskPre K C H M c ns R ad adr s dx r d tr ts ∧ AskPost K H tr ts Q c (rung M R adr pl c)
def spNodeSaid (K : PySem.W.Frag) (C : Addr) (n : Nat) : Sp := fun vs H Q _ => ∃ v M kd cs ns R ad adr s dx r d tr ts pl, vs = [.ref s, v, .ref ad, .bl pl] ∧ CndAt K H v (.node kd cs) ∧ (kd = "all" ∨ kd = "any") ∧
  (Cnd.node kd cs).depth ≤ n ∧ AskPre K C H M (.node kd cs) ns R ad adr s dx r d tr ts ∧
  AskPost K H tr ts Q (.node kd cs) (goNode (decOf kd) M.ev [] (pick (rungL M R adr 0 1 pl cs) (M.order adr cs.length)))
def spFirstSaid (K : PySem.W.Frag) (C : Addr) (n : Nat) : Sp := fun vs H Q _ => ∃ v M cs ns R ad adr s dx r d tr ts, vs = [.ref s, v, .ref ad] ∧ CndAt K H v (.node "first" cs) ∧
  (Cnd.node "first" cs).depth ≤ n ∧ AskPre K C H M (.node "first" cs) ns R ad adr s dx r d tr ts ∧ AskPost K H tr ts Q (.node "first" cs) (firstOf (rungL M R adr 0 1 false cs))
def spCaseSaid (K : PySem.W.Frag) (C : Addr) (n : Nat) : Sp := fun vs H Q _ => ∃ v M ws us e ns R ad adr s dx r d tr ts pl, vs = [.ref s, v, .ref ad, .bl pl] ∧ CndAt K H v (.case ws us e) ∧
  (Cnd.case ws us e).depth ≤ n ∧ AskPre K C H M (.case ws us e) ns R ad adr s dx r d tr ts ∧
  AskPost K H tr ts Q (.case ws us e) (caseOf (rungL M R adr 0 2 true ws) (rungL M R adr 1 2 pl us) (rung M R (adr ++ [2 * (ws.length : Int)]) pl e))
theorem RowAt.to {H H' : Hp} {r tr : Addr} {ns : List Str} {R : Str → V} {ts : List V} (h : RowAt H r ns R) (e : ExB tr H H') (ht : H tr = some (.lst ts)) : RowAt H' r ns R := by
  obtain ⟨kvs, h1, h2⟩ := h
  exact ⟨kvs, e _ _ (fun z => by subst z; rw [ht] at h1; cases h1) h1, h2⟩
theorem tup_to {H H' : Hp} {a tr : Addr} {xs ts : List V} (h : H a = some (.tup xs)) (e : ExB tr H H') (ht : H tr = some (.lst ts)) : H' a = some (.tup xs) :=
  e _ _ (fun z => by subst z; rw [ht] at h; cases h) h
theorem ins_to {H H' : Hp} {a C dx tr : Addr} {fs : List (Str × V)} {ts : List V} (h : H a = some (.ins C dx fs)) (e : ExB tr H H') (ht : H tr = some (.lst ts)) : H' a = some (.ins C dx fs) :=
  e _ _ (fun z => by subst z; rw [ht] at h; cases h) h
/-- what goes to a part -/
theorem AskPre.part {K : PySem.W.Frag} {C : Addr} {H H' : Hp} {M : Md} {c c' : Cnd} {ns : List Str} {R : Str → V} {ad p : Addr} {adr : List Int} {s dx r d tr : Addr} {ts more : List V} {i : Int}
    (pre : AskPre K C H M c ns R ad adr s dx r d tr ts) (e : ExB tr H H') (ok : c'.ok ns) (hp : H' p = some (.tup ((adr ++ [i]).map V.int))) (od : OrdOk M (adr ++ [i]) c')
    (ht : H' tr = some (.lst (ts ++ more))) (few : ts.length + more.length + c'.weight ≤ 16000000) (dp : c'.depth + 1 ≤ c.depth) : AskPre K C H' M c' ns R p (adr ++ [i]) s dx r d tr (ts ++ more) :=
  ⟨ok, hp, pre.row.to e pre.tr, ins_to pre.ob e pre.tr, pre.pl.to e pre.tr, od, ht, by rw [List.length_append]; exact few, by have := pre.deep; rw [List.length_append, List.length_singleton]; omega⟩
section
variable {P : Program} {w : World} {K : PySem.W.Frag} {mg : Str → Option Value} {base : Heap}
variable {C fI f_Asker_said f_Asker__node_said f_Asker__case_said f_Asker__first_said f_leaf_answer : Addr} {fdI fd_Asker_said fd_Asker__node_said fd_Asker__case_said fd_Asker__first_said fd_leaf_answer : FuncData}
def spAskerI (K : PySem.W.Frag) (C : Addr) : Sp := fun vs H Q _ => ∃ (p dx r d : Addr) (ev lo : Bool), vs = [.ref p, .ref r, .ref d, .bl ev, .bl lo] ∧ H p = some (.ins C dx []) ∧
  ∀ (tr : Addr) (H' : Hp), H tr = none → H' p = some (.ins C dx (askF r d ev lo tr)) → H' tr = some (.lst []) → (∀ b o, H b = some o → b ≠ p → H' b = some o) → Q .non H'
theorem ok_asker (T_Asker : AskerT K mg C fI) (D : MDef K C "__init__" "Asker.__init__" s_Asker___init fI fdI ["self", "row", "plan", "every", "lowers"]) :
    FnOk P w K mg base CX0 1 fI fdI ["self", "row", "plan", "every", "lowers"] (spAskerI K C) := by
  refine D.fn.ok sc_Asker___init (fun vs H Q E h => ?_) (fun cdv A outer s0 H vs Q E hr h => ?_)
  · obtain ⟨p, dx, r, d, ev, lo, rfl, _⟩ := h
    rfl
  · obtain ⟨p, dx, r, d, ev, lo, rfl, hp, k⟩ := h
    refine ⟨_, (pss_cons (ps_fld (pv 0) (pv 1) rfl)
  (pss_cons (ps_fld (pv 0) (pv 2) rfl)
  (pss_cons (ps_fld (pv 0) (pv 3) rfl)
  (pss_cons (ps_fld (pv 0) (pv 4) rfl)
  (pss_one (ps_fld (pv 0) (pe_lst pa_nil) rfl)))))), ?_⟩
    refine ⟨_, rfl, _, rfl, p, C, dx, [], rfl, hp, T_Asker.cl, T_Asker.row, (by show 0 < 1000; decide), ?_⟩
    refine ⟨_, rfl, _, rfl, p, C, dx, _, rfl, upd_same, T_Asker.cl, T_Asker.plan, (by show 1 < 1000; decide), ?_⟩
    refine ⟨_, rfl, _, rfl, p, C, dx, _, rfl, upd_same, T_Asker.cl, T_Asker.every, lt1000 (putF_le (putF_le (Nat.zero_le 0))) (by decide), ?_⟩
    refine ⟨_, rfl, _, rfl, p, C, dx, _, rfl, upd_same, T_Asker.cl, T_Asker.lowers, lt1000 (putF_le (putF_le (putF_le (Nat.zero_le 0)))) (by decide), ?_⟩
    refine ⟨by decide, fun tr nt => ?_⟩
    have npt : p ≠ tr := by
      intro z; subst z
      rw [upd_same] at nt; cases nt
    refine ⟨_, rfl, p, C, dx, _, rfl, by rw [upd_ne npt]; exact upd_same, T_Asker.cl, T_Asker.trail, lt1000 (putF_le (putF_le (putF_le (putF_le (Nat.zero_le 0))))) (by decide), ?_⟩
    have ntH : H tr = none := by
      cases e : H tr with
      | none => rfl
      | some o => rw [upd_ne npt.symm, upd_ne npt.symm, upd_ne npt.symm, upd_ne npt.symm, e] at nt; cases nt
    refine k tr _ ntH ?_ ?_ fun b o hb hn => ?_
    · rw [upd_same, ask_puts]; rfl
    · rw [upd_ne npt.symm, upd_same]
    · have nb : b ≠ tr := ne_of_none hb ntH
      rw [upd_ne hn, upd_ne nb, upd_ne hn, upd_ne hn, upd_ne hn, upd_ne hn]
      exact hb
end
end K26

set_option Elab.async false
set_option linter.all false
set_option maxRecDepth 100000
set_option maxHeartbeats 4000000
namespace K26
open PySem PySem.Spec PyProof.Rows L2 Evl Gx
def decides : List (Str × Str) := [("all", "no"), ("any", "yes")]
theorem dec_in {kd : Str} (h : kd = "all" ∨ kd = "any") : (kd, decOf kd) ∈ decides := by
  have : ∀ kd ∈ (["all", "any"] : List Str), (kd, decOf kd) ∈ decides := by decide +kernel
  refine this kd ?_
  rcases h with rfl | rfl <;> decide +kernel
section
variable {P : Program} {w : World} {K : PySem.W.Frag} {mg : Str → Option Value} {base : Heap}
variable {C fI f_Asker_said f_Asker__node_said f_Asker__case_said f_Asker__first_said f_leaf_answer : Addr} {fdI fd_Asker_said fd_Asker__node_said fd_Asker__case_said fd_Asker__first_said fd_leaf_answer : FuncData}
  {a_DECIDES a_OPPOSITES a_NODES : Addr}
theorem ok_node_said {n : Nat} (T_Asker : AskerT K mg C fI) (D : MDef K C "_node_said" "Asker._node_said" s_Asker__node_said f_Asker__node_said fd_Asker__node_said ["self", "condition", "address", "plain"]) (bi : Bi mg)
    (C_DECIDES : ConD K w mg "DECIDES" a_DECIDES decides) (C_OPPOSITES : ConD K w mg "OPPOSITES" a_OPPOSITES oppo)
    (D_Asker_said : MDef K C "said" "Asker.said" s_Asker_said f_Asker_said fd_Asker_said ["self", "condition", "address", "plain"])
    (G_Asker_said : FnOk P w K mg base CX0 (2 * n + 7) f_Asker_said fd_Asker_said ["self", "condition", "address", "plain"] (spSaid K C n)) :
    FnOk P w K mg base CX0 (2 * n + 7 + 1) f_Asker__node_said fd_Asker__node_said ["self", "condition", "address", "plain"] (spNodeSaid K C n) := by
  refine D.fn.ok sc_Asker__node_said (fun vs H Q E h => ?_) (fun cdv A outer s0 H vs Q E hr h => ?_)
  · obtain ⟨v, M, kd, cs, ns, R, ad, adr, s, dx, r, d, tr, ts, pl, rfl, _⟩ := h
    rfl
  · obtain ⟨v, M, kd, cs, ns, R, ad, adr, s, dx, r, d, tr, ts, pl, rfl, hv, hk, dp, pre, post⟩ := h
    have hu := hu_of hr
    refine ⟨_, (pss_cons (ps_par (i := 4) (j := 5) rfl sc_Asker__node_said.nd rfl rfl (by decide) rfl rfl (pa_cons (pe_ix ix_kdict (pe_glob (v := .ref a_DECIDES) rfl C_DECIDES.mg rfl) (pe_ix (ix_tupK (K := K) rfl) (pv 1) pe_int (fun _ _ => rfl)) (fun _ _ => rfl)) (pa_cons (pe_lst pa_nil) pa_nil)) (by rfl))
  (pss_cons (ps_for PassesOwn.never rfl (pi_list (pe_dget2 hu (pe_fld (pv 0) rfl) (pv 2) (pe_listRg rfl rfl bi.list (prg_1 rfl bi.range (pe_callB call_len_seq (by rfl) bi.len bt_len (pa_cons (pe_ix (ix_tupK (K := K) rfl) (pv 1) pe_int (fun _ _ => rfl)) pa_nil)))) ⟨rfl, rfl, rfl, rfl⟩)) (pg_name (i := 6) sc_Asker__node_said.nd rfl (Or.inl rfl))
    (pss_cons (ps_set (i := 7) sc_Asker__node_said.nd rfl (Or.inl rfl) (pe_meth (pv 0) T_Asker.cl D_Asker_said.mt G_Asker_said (hr.mono (by first | decide | omega)) D_Asker_said.bd .nil pass0 (pa_cons (pe_ix ix_tup (pe_ix (ix_tupK (K := K) rfl) (pv 1) pe_int (fun _ _ => rfl)) (pv 6) (fun _ _ => rfl)) (pa_cons (pe_op op_catA (pv 2) (pe_tup (pa_cons (pv 6) pa_nil))) (pa_cons (pv 3) pa_nil)))))
    (pss_cons (ps_if (L2.PW.pt (pw_or (pt_cmpR op_eq (pv 7) pe_str (nomark _)) (pw_or1 (L2.PW.pt (pw_and (pt_cmpR op_eq (pv 7) (pv 4) (nomark _)) (pw_and1 (pt_not (pt_val (pe_fld (pv 0) rfl)))))))))
      (pss_one (ps_ret (pv 7)))
      pss_nil)
    (pss_one (ps_expr (pe_bm PySem.F.plainAttrs_list PySem.F.slot_list_append PySem.F.type_list_append mt_append (pv 5) (pa_cons (pv 7) pa_nil)))))))
  (pss_cons (ps_for PassesOwn.never rfl (pi_tup (pe_tup (pa_cons (pv 4) (pa_cons pe_str pa_nil)))) (pg_name (i := 8) sc_Asker__node_said.nd rfl (Or.inl rfl))
    (pss_one (ps_if (pt_cmpR op_in_seq (pv 8) (pv 5) (by rfl))
      (pss_one (ps_ret (pv 8)))
      pss_nil)))
  (pss_one (ps_ret (pe_ix ix_kdict (pe_glob (v := .ref a_OPPOSITES) rfl C_OPPOSITES.mg rfl) (pv 4) (fun _ _ => rfl))))))), ?_⟩
    obtain ⟨a, b, xs, rfl, ha, hb, hxs⟩ := hv
    have wt := pre.few
    have dpa := pre.deep
    have ok := pre.ok
    have od := pre.ord
    rw [Cnd.weight] at wt
    rw [Cnd.depth] at dp dpa
    rw [Cnd.ok] at ok
    rw [OrdOk] at od
    have okc := ok.2
    obtain ⟨oa, ol⟩ := od
    generalize hdec : decOf kd = dec at post
    have hin : (kd, dec) ∈ decides := by rw [← hdec]; exact dec_in hk
    refine ⟨_, rfl, a, _, 0, _, rfl, rfl, ha, rfl, a_DECIDES, _, _, rfl, rfl, C_DECIDES.at_ _ hin, ?_⟩
    refine ⟨by decide, fun fl nfl => ⟨_, _, rfl, ?_⟩⟩
    have x1 := Ex.new (o := .lst []) nfl
    have hfl1 : upd H fl (.lst []) fl = some (.lst []) := upd_same
    generalize upd H fl (.lst []) = H1 at x1 hfl1 ⊢
    have ntf : tr ≠ fl := ne_of_none pre.tr nfl
    obtain ⟨kvs, hkv, hord⟩ := pre.pl
    refine ⟨_, rfl, s, C, dx, _, _, rfl, x1 _ _ pre.ob, T_Asker.cl, T_Asker.plan, ask_plan, d, rfl, .inr ⟨kvs, .inl (x1 _ _ hkv)⟩, _, rfl, ?_⟩
    refine ⟨_, rfl, a, _, 1, _, rfl, rfl, ex_t x1 ha, rfl, b, xs, rfl, .inr (ex_t x1 hb), _, rfl, ?_⟩
    refine ⟨RgOk.of_le (by decide) (by have := cnds_len hxs; have := weightL_len cs; omega) (by decide) (by omega), fun q nq => ?_⟩
    have xl := cnds_len hxs
    have x2 := x1.trans (Ex.new (o := .lst (rgV 0 (xs.length : Int))) nq)
    have hq2 : upd H1 q (.lst (rgV 0 (xs.length : Int))) q = some (.lst (rgV 0 (xs.length : Int))) := upd_same
    have nfq : fl ≠ q := ne_of_none hfl1 nq
    have hfl2 : upd H1 q (.lst (rgV 0 (xs.length : Int))) fl = some (.lst []) := by rw [upd_ne nfq]; exact hfl1
    have nqt : q ≠ tr := fun z => by rw [z, x1 _ _ pre.tr] at nq; cases nq
    generalize upd H1 q (.lst (rgV 0 (xs.length : Int))) = H2 at x2 hq2 hfl2 ⊢
    have ead : H2 ad = some (.tup (((adr.map Sum.inl : List Key)).map kV)) := by rw [List.map_map]; exact x2 _ _ pre.at_
    refine ⟨_, DGet.t (k := adr.map Sum.inl) (x2 _ _ hkv) ead, ?_⟩
    have key : ∃ p : Addr, (valV kvs (adr.map Sum.inl)).getD (V.ref q) = .ref p ∧ H2 p = some (.lst ((M.order adr cs.length).map fun i : Nat => V.int i)) ∧ p ≠ tr ∧ p ≠ fl ∧
        (∀ i ∈ M.order adr cs.length, i < cs.length) ∧ (M.order adr cs.length).Nodup := by
      have h2 := hord adr
      unfold Md.order
      cases e : M.ord adr with
      | none =>
        rw [e] at h2
        refine ⟨q, by rw [show valV kvs (adr.map Sum.inl) = none from h2]; rfl, ?_, nqt, nfq.symm, fun i hi => List.mem_range.mp hi, List.nodup_range⟩
        rw [hq2]
        congr 2
        unfold rgV
        rw [← xl, show ((xs.length : Int) - 0).toNat = xs.length by omega]
        refine List.map_congr_left fun i _ => ?_
        rw [show (0 : Int) + (i : Int) = (i : Int) by omega]
      | some o =>
        rw [e] at h2
        obtain ⟨p, h3, h4, h5⟩ := h2
        obtain ⟨o1, o2⟩ := oa o e
        exact ⟨p, by rw [h3]; rfl, x2 _ _ h4, h5, ne_of_none h4 nfl, o1, o2⟩
    obtain ⟨p, ep, hp, npt, npf, olt, ond⟩ := key
    rw [ep]
    have prs := pick_all (o := M.order adr cs.length) (rs := rungL M R adr 0 1 pl cs) (by rw [rungL_len]; exact olt)
    generalize M.order adr cs.length = o at hp post olt ond prs
    refine ⟨p, rfl, ⟨_, SqL.of hp⟩, for_list (xs := o.map fun i : Nat => V.int i) (fun i σ H' => ∃ (f : List Str) (more : List V) (acc : List PyData) (x6 x7 : Option V),
        σ = [some (.ref s), some (.ref a), some (.ref ad), some (.bl pl), some (.str dec), some (.ref fl), x6, x7, none] ∧ ExB tr H H' ∧ H' tr = some (.lst (ts ++ more)) ∧ Ents K H' more acc ∧
        H' p = some (.lst (o.map fun i : Nat => V.int i)) ∧ H' fl = some (.lst (f.map V.str)) ∧ f.length ≤ i ∧
        goNode dec M.ev [] (pick (rungL M R adr 0 1 pl cs) o) = ((goNode dec M.ev f ((pick (rungL M R adr 0 1 pl cs) o).drop i)).1, acc ++ (goNode dec M.ev f ((pick (rungL M R adr 0 1 pl cs) o).drop i)).2) ∧
        more.length ≤ ((o.take i).map (wAt cs)).sum) ?_ (fun i σ H' _ ⟨_, _, _, _, _, _, _, _, _, z, _⟩ => SqL.of z) ?_ ?_⟩
    · exact ⟨[], [], [], none, none, rfl, ExB.of x2, by rw [List.append_nil]; exact x2 _ _ pre.tr, trivial, hp, hfl2, Nat.zero_le _, by simp, Nat.zero_le _⟩
    · rintro i z σ H3 hi ⟨f, more, acc, x6, x7, rfl, e3, ht3, hen, hp3, hfl3, fln, heq, hml⟩
      obtain ⟨j, hj, rfl⟩ : ∃ j, o[i]? = some j ∧ z = V.int (j : Nat) := by
        rw [List.getElem?_map] at hi
        obtain ⟨j, h1, h2⟩ := Option.map_eq_some_iff.mp hi
        exact ⟨j, h1, h2.symm⟩
      have jm := List.mem_of_getElem? hj
      have jlt := olt j jm
      have hcj : cs[j]? = some cs[j] := List.getElem?_eq_getElem jlt
      generalize cs[j] = c at hcj
      obtain ⟨x, hx, hca⟩ : ∃ x, xs[j]? = some x ∧ CndAt K H x c := by
        have hxj : xs[j]? = some (xs[j]'(by omega)) := List.getElem?_eq_getElem (by omega)
        obtain ⟨c', h1, h2⟩ := cnds_get hxs hxj
        rw [hcj] at h1; cases h1
        exact ⟨_, hxj, h2⟩
      have cm := List.mem_of_getElem? hcj
      have dc := Cnd.depthL_le.mp (Nat.le_refl (Cnd.depthL cs)) c cm
      have hpk : (pick (rungL M R adr 0 1 pl cs) o)[i]? = some (rung M R (adr ++ [(j : Int)]) pl c) := by
        rw [prs.2 i j hj]
        have := rungL_get M R cs adr 0 1 pl j c hcj
        rwa [show (0 : Int) + (j : Int) * 1 = (j : Int) by omega] at this
      have wj : wAt cs j = c.weight := by unfold wAt; rw [hcj]
      have wsum : ((o.take (i + 1)).map (wAt cs)).sum = ((o.take i).map (wAt cs)).sum + c.weight := by
        rw [take_snoc hj, List.map_append, List.sum_append, List.map_cons, List.map_nil, List.sum_cons, List.sum_nil, wj]; omega
      have wle : ((o.take (i + 1)).map (wAt cs)).sum ≤ Cnd.weightL cs :=
        Nat.le_trans (sum_diff (wAt cs) cs.length (o.take (i + 1)) (ond.sublist (List.take_sublist _ _)) fun q hq => olt q (List.mem_of_mem_take hq)) (wAt_sum cs)
      have i3 := e3.toI pre.tr
      refine ⟨_, rfl, s, dx, _, rfl, ins_to pre.ob e3 pre.tr, ask_no (by decide +kernel), _, rfl, a, _, 1, _, rfl, rfl, i3.sq ha, rfl, _, rfl, b, xs, (j : Nat), x, rfl, rfl, i3.sq hb, atI_nat hx, ?_⟩
      refine ⟨_, rfl, _, rfl, sz1, fun t nt => cat_tup (Q := _) ((Ex.new nt) _ _ (tup_to pre.at_ e3 pre.tr)) upd_same (by omega) fun p4 H4 e4 hp4 => ⟨_, rfl, ?_⟩⟩
      have x34 := (Ex.new (o := .tup [.int (j : Nat)]) nt).trans e4
      have e14 : ExB tr H H4 := e3.trans (ExB.of x34)
      refine ⟨x, M, c, ns, R, p4, adr ++ [(j : Int)], s, dx, r, d, tr, ts ++ more, pl, rfl, cndAt_toI (e14.toI pre.tr) _ _ hca, by omega,
        pre.part e14 (Cnd.okL_iff.mp okc c cm) hp4 (by have := ordL_get ol hcj; rwa [show (0 : Int) + (j : Int) * 1 = (j : Int) by omega] at this) (x34 _ _ ht3) (by omega) (by rw [Cnd.depth]; omega),
        fun H5 more2 e5 ht5 hen2 ml2 => ?_⟩
      have e15 : ExB tr H H5 := e14.trans e5
      have hen5 : Ents K H5 (more ++ more2) (acc ++ (rung M R (adr ++ [(j : Int)]) pl c).2) :=
        ents_app (ents_toI (e5.toI (x34 _ _ ht3)) (ents_toI (ExI.of x34) hen)) hen2
      rw [List.append_assoc] at ht5
      have hp5 : H5 p = some (.lst (o.map fun i : Nat => V.int i)) := e5 _ _ npt (x34 _ _ hp3)
      have hfl5 : H5 fl = some (.lst (f.map V.str)) := e5 _ _ ntf.symm (x34 _ _ hfl3)
      rw [goNode_step hpk] at heq
      have rw_ := rung_word (M := M) (R := R) c (adr ++ [(j : Int)]) pl (Cnd.okL_iff.mp okc c cm)
      generalize hres : rung M R (adr ++ [(j : Int)]) pl c = res at heq hen5 rw_ ⊢
      have ob5 := ins_to pre.ob e15 pre.tr
      have mlw : (more ++ more2).length ≤ ((o.take (i + 1)).map (wAt cs)).sum := by rw [wsum, List.length_append]; omega
      have back : goNode dec M.ev [] (pick (rungL M R adr 0 1 pl cs) o) = (res.1, acc ++ res.2) → Q (.str res.1) H5 := fun h => by
        have post := post _ (more ++ more2) e15 ht5
        rw [h] at post
        exact post hen5 (by rw [Cnd.weight]; omega)
      have on : goNode dec M.ev [] (pick (rungL M R adr 0 1 pl cs) o) = ((goNode dec M.ev (f ++ [res.1]) ((pick (rungL M R adr 0 1 pl cs) o).drop (i + 1))).1,
          acc ++ (res.2 ++ (goNode dec M.ev (f ++ [res.1]) ((pick (rungL M R adr 0 1 pl cs) o).drop (i + 1))).2)) →
          ∃ H6, H6 = upd H5 fl (.lst (f.map V.str ++ [.str res.1])) ∧ ExB tr H H6 ∧ H6 tr = some (.lst (ts ++ (more ++ more2))) ∧ Ents K H6 (more ++ more2) (acc ++ res.2) ∧
          H6 p = some (.lst (o.map fun i : Nat => V.int i)) ∧ H6 fl = some (.lst ((f ++ [res.1]).map V.str)) ∧ (f ++ [res.1]).length ≤ i + 1 ∧
          goNode dec M.ev [] (pick (rungL M R adr 0 1 pl cs) o) = ((goNode dec M.ev (f ++ [res.1]) ((pick (rungL M R adr 0 1 pl cs) o).drop (i + 1))).1,
          (acc ++ res.2) ++ (goNode dec M.ev (f ++ [res.1]) ((pick (rungL M R adr 0 1 pl cs) o).drop (i + 1))).2) ∧
          (more ++ more2).length ≤ ((o.take (i + 1)).map (wAt cs)).sum := fun h => by
        refine ⟨_, rfl, fun q u nq hq => ?_, ?_, ents_toI (ExI.put hfl5 rfl) hen5, ?_, ?_, by rw [List.length_append, List.length_singleton]; omega, by rw [h, List.append_assoc], mlw⟩
        · rw [upd_ne (ne_of_none hq nfl)]
          exact e15 q u nq hq
        · rw [upd_ne ntf]; exact ht5
        · rw [upd_ne npf]; exact hp5
        · rw [upd_same, List.map_append]; rfl
      have flsz : (f.map V.str).length < sizeLine := by
        rw [List.length_map]
        have : i < o.length := (List.getElem?_eq_some_iff.mp hj).1
        have := nodup_len ond olt
        have := weightL_len cs
        exact Nat.lt_of_le_of_lt (show f.length ≤ 16000000 by omega) (by decide)
      by_cases he : res.1 = "error"
      · rw [if_pos (.inl he)] at heq
        exact ⟨_, rfl, rfl, _, rfl, if_t (by rw [he]; decide +kernel) (if_t rfl ⟨_, rfl, back heq⟩)⟩
      · refine ⟨_, rfl, rfl, _, rfl, if_f (decide_eq_false fun z => he (V.str.inj z)) ⟨_, rfl, _, rfl, rfl, _, rfl, ?_⟩⟩
        by_cases hd : res.1 = dec
        · refine if_t (decide_eq_true (congrArg V.str hd)) ⟨_, rfl, s, C, dx, _, _, rfl, ob5, T_Asker.cl, T_Asker.every, ask_every, _, rfl, ?_⟩
          cases hev : M.ev with
          | false =>
            rw [if_pos (.inr ⟨hd, hev⟩)] at heq
            exact if_t rfl ⟨_, rfl, back heq⟩
          | true =>
            rw [if_neg (fun z => z.elim he fun z => by rw [hev] at z; exact Bool.noConfusion z.2)] at heq
            obtain ⟨H6, rfl, q⟩ := on heq
            rw [hev] at q
            exact if_f rfl ⟨_, rfl, .inl ⟨rfl, _, SqL.of hfl5⟩, _, rfl, fl, _, _, rfl, rfl, hfl5, flsz, f ++ [res.1], more ++ more2, acc ++ res.2, _, _, rfl, q⟩
        · rw [if_neg (fun z => z.elim he fun z => hd z.1)] at heq
          obtain ⟨H6, rfl, q⟩ := on heq
          exact if_f (decide_eq_false fun z => hd (V.str.inj z)) (if_f rfl ⟨_, rfl, .inl ⟨rfl, _, SqL.of hfl5⟩, _, rfl, fl, _, _, rfl, rfl, hfl5, flsz, f ++ [res.1], more ++ more2, acc ++ res.2, _, _, rfl, q⟩)
    · rintro σ H3 ⟨f, more, acc, x6, x7, rfl, e3, ht3, hen, hp3, hfl3, fln, heq, hml⟩
      have dl : (pick (rungL M R adr 0 1 pl cs) o).drop (o.map fun i : Nat => V.int i).length = [] := by rw [List.drop_eq_nil_iff, List.length_map]; exact Nat.le_of_eq prs.1
      rw [dl, goNode, List.append_nil] at heq
      have wle : ((o.take (o.map fun i : Nat => V.int i).length).map (wAt cs)).sum ≤ Cnd.weightL cs :=
        Nat.le_trans (sum_diff (wAt cs) cs.length _ (ond.sublist (List.take_sublist _ _)) fun q hq => olt q (List.mem_of_mem_take hq)) (wAt_sum cs)
      have fin : ∀ H4, Ex H3 H4 → Q (.str (endOf dec f)) H4 := fun H4 e4 => by
        have post := post H4 more (e3.trans (ExB.of e4)) (e4 _ _ ht3)
        rw [heq] at post
        exact post (ents_toI (ExI.of e4) hen) (by rw [Cnd.weight]; omega)
      refine ⟨_, rfl, sz2, fun t nt => ⟨t, rfl, ⟨_, SqT.of upd_same⟩, ?_⟩⟩
      have x4 := Ex.new (o := .tup [.str dec, .str "unknown"]) nt
      have htt : upd H3 t (.tup [.str dec, .str "unknown"]) t = some (.tup [.str dec, .str "unknown"]) := upd_same
      have hfl4 := x4 _ _ hfl3
      generalize upd H3 t (.tup [.str dec, .str "unknown"]) = H4 at x4 htt hfl4 ⊢
      have fin := fin H4 x4
      refine for_tup (xs := [.str dec, .str "unknown"]) (fun i σ H' => ∃ x8 : Option V, σ = [some (.ref s), some (.ref a), some (.ref ad), some (.bl pl), some (.str dec), some (.ref fl), x6, x7, x8] ∧ H' = H4 ∧
        (1 ≤ i → dec ∉ f) ∧ (2 ≤ i → ("unknown" : Str) ∉ f)) ⟨none, rfl, rfl, fun h => absurd h (by decide), fun h => absurd h (by decide)⟩ (fun i σ H' _ ⟨_, _, e, _⟩ => by rw [e]; exact SqT.of htt) ?_ ?_
      · rintro i z σ H' hi ⟨x8, rfl, eH, h1, h2⟩
        have eH := eH.symm
        subst eH
        match i, hi with
        | 0, hi =>
          obtain rfl : V.str dec = z := Option.some.inj hi
          refine ⟨_, rfl, _, rfl, fl, _, rfl, .inl (SqL.of hfl4), rfl, flat_strs f, _, rfl, ?_⟩
          show (if (inV (.str dec) (f.map V.str)) = true then _ else _)
          rw [inV_strs]
          refine if_d (fun h => ?_) (fun h => ⟨_, rfl, rfl, fun _ => h, fun z => absurd z (by decide)⟩)
          refine ⟨_, rfl, ?_⟩
          unfold endOf at fin
          rw [if_pos h] at fin
          exact fin
        | 1, hi =>
          obtain rfl : V.str "unknown" = z := Option.some.inj hi
          have h1 := h1 (Nat.le_refl 1)
          refine ⟨_, rfl, _, rfl, fl, _, rfl, .inl (SqL.of hfl4), rfl, flat_strs f, _, rfl, ?_⟩
          show (if (inV (.str "unknown") (f.map V.str)) = true then _ else _)
          rw [inV_strs]
          refine if_d (fun h => ?_) (fun h => ⟨_, rfl, rfl, fun _ => h1, fun _ => h⟩)
          refine ⟨_, rfl, ?_⟩
          unfold endOf at fin
          rw [if_neg h1, if_pos h] at fin
          exact fin
        | i + 2, hi => simp at hi
      · rintro σ H' ⟨x8, rfl, eH, h1, h2⟩
        have eH := eH.symm
        subst eH
        have h1 := h1 (show 1 ≤ 2 by decide)
        have h2 := h2 (show 2 ≤ 2 by decide)
        unfold endOf at fin
        rw [if_neg h1, if_neg h2] at fin
        exact ⟨_, rfl, a_OPPOSITES, _, _, rfl, rfl, C_OPPOSITES.at_ _ (oppo_in (by rw [← hdec]; exact dec_word kd)), fin⟩
end
end K26

set_option Elab.async false
set_option linter.all false
set_option maxRecDepth 100000
set_option maxHeartbeats 4000000
namespace K26
open PySem PySem.Spec PyProof.Rows L2 Evl Gx
section
variable {P : Program} {w : World} {K : PySem.W.Frag} {mg : Str → Option Value} {base : Heap}
variable {C fI f_Asker_said f_Asker__node_said f_Asker__case_said f_Asker__first_said f_leaf_answer : Addr} {fdI fd_Asker_said fd_Asker__node_said fd_Asker__case_said fd_Asker__first_said fd_leaf_answer : FuncData}
  {a_DECIDES a_OPPOSITES a_NODES : Addr}
theorem ok_first_said {n : Nat} (T_Asker : AskerT K mg C fI) (D : MDef K C "_first_said" "Asker._first_said" s_Asker__first_said f_Asker__first_said fd_Asker__first_said ["self", "condition", "address"]) (bi : Bi mg)
    (D_Asker_said : MDef K C "said" "Asker.said" s_Asker_said f_Asker_said fd_Asker_said ["self", "condition", "address", "plain"])
    (G_Asker_said : FnOk P w K mg base CX0 (2 * n + 7) f_Asker_said fd_Asker_said ["self", "condition", "address", "plain"] (spSaid K C n)) :
    FnOk P w K mg base CX0 (2 * n + 7 + 1) f_Asker__first_said fd_Asker__first_said ["self", "condition", "address"] (spFirstSaid K C n) := by
  refine D.fn.ok sc_Asker__first_said (fun vs H Q E h => ?_) (fun cdv A outer s0 H vs Q E hr h => ?_)
  · obtain ⟨v, M, cs, ns, R, ad, adr, s, dx, r, d, tr, ts, rfl, _⟩ := h
    rfl
  · obtain ⟨v, M, cs, ns, R, ad, adr, s, dx, r, d, tr, ts, rfl, hv, dp, pre, post⟩ := h
    refine ⟨_, (pss_cons (ps_for PassesOwn.never rfl (pi_enumT rfl bi.enumerate (pa_cons (pe_ix (ix_tupK (K := K) rfl) (pv 1) pe_int (fun _ _ => rfl)) pa_nil)) (pg_tup rfl (pgs_cons (pg_name (i := 3) sc_Asker__first_said.nd rfl (Or.inl rfl)) (pgs_cons (pg_name (i := 4) sc_Asker__first_said.nd rfl (Or.inl rfl)) pgs_nil)))
    (pss_cons (ps_set (i := 5) sc_Asker__first_said.nd rfl (Or.inl rfl) (pe_meth (pv 0) T_Asker.cl D_Asker_said.mt G_Asker_said (hr.mono (by first | decide | omega)) D_Asker_said.bd .nil pass0 (pa_cons (pv 4) (pa_cons (pe_op op_catA (pv 2) (pe_tup (pa_cons (pv 3) pa_nil))) (pa_cons pe_bl pa_nil)))))
    (pss_one (ps_if (pt_cmpR op_ne (pv 5) pe_str (nomark _))
      (pss_one (ps_ret (pv 5)))
      pss_nil))))
  (pss_one (ps_ret pe_str))), ?_⟩
    obtain ⟨a, b, xs, rfl, ha, hb, hxs⟩ := hv
    have wt := pre.few
    have dpa := pre.deep
    have ok := pre.ok
    have od := pre.ord
    rw [Cnd.weight] at wt
    rw [Cnd.depth] at dp dpa
    rw [Cnd.ok] at ok
    rw [OrdOk] at od
    have okc := ok.2
    obtain ⟨_, ol⟩ := od
    refine ⟨_, rfl, a, _, 1, .ref b, rfl, rfl, ha, rfl, b, xs, rfl, hb, for_enumT (xs := xs) (fun i σ H' => ∃ (more : List V) (acc : List PyData) (x6 x7 x8 : Option V),
        σ = [some (.ref s), some (.ref a), some (.ref ad), x6, x7, x8] ∧ ExB tr H H' ∧ H' tr = some (.lst (ts ++ more)) ∧ Ents K H' more acc ∧
        firstOf (rungL M R adr 0 1 false cs) = ((firstOf ((rungL M R adr 0 1 false cs).drop i)).1, acc ++ (firstOf ((rungL M R adr 0 1 false cs).drop i)).2) ∧ more.length ≤ Cnd.weightL (cs.take i)) ?_
        (fun i σ H' _ ⟨_, _, _, _, _, _, e, _⟩ => (e.toI pre.tr).sq hb) ?_ ?_⟩
    · exact ⟨[], [], none, none, none, rfl, ExB.of (Ex.refl H), by rw [List.append_nil]; exact pre.tr, trivial, by simp, Nat.zero_le _⟩
    · rintro i z T σ H2 hi ⟨more, acc, x6, x7, x8, rfl, e2, ht2, hen, heq, hml⟩ nT
      obtain ⟨c, hc, hca⟩ := cnds_get hxs hi
      have cm := List.mem_of_getElem? hc
      obtain ⟨ws1, ws2⟩ := weightL_step hc
      have dc := Cnd.depthL_le.mp (Nat.le_refl (Cnd.depthL cs)) c cm
      have hrs := rungL_get M R cs adr 0 1 false i c hc
      rw [show (0 : Int) + (i : Int) * 1 = (i : Int) by omega] at hrs
      -- the item
      have x3 := Ex.new (o := .tup [.int (i : Nat), z]) nT
      have tq : SqT K (upd H2 T (.tup [.int (i : Nat), z])) T [.int (i : Nat), z] := SqT.of upd_same
      have ht3 := x3 _ _ ht2
      generalize upd H2 T (.tup [.int (i : Nat), z]) = H3 at x3 tq ht3 ⊢
      refine ⟨T, _, rfl, tq, rfl, _, _, rfl, _, _, rfl, rfl, ?_⟩
      have e23 : ExB tr H H3 := e2.trans (ExB.of x3)
      refine ⟨_, rfl, s, dx, _, rfl, ins_to pre.ob e23 pre.tr, ask_no (by decide +kernel), _, rfl, _, rfl, _, rfl, sz1, fun t nt => cat_tup (Q := _) ((Ex.new nt) _ _ (tup_to pre.at_ e23 pre.tr)) upd_same (by omega) fun p H4 e4 hp => ?_⟩
      have x34 := (Ex.new (o := .tup [.int (i : Int)]) nt).trans e4
      have e24 : ExB tr H H4 := e23.trans (ExB.of x34)
      refine ⟨z, M, c, ns, R, p, adr ++ [(i : Int)], s, dx, r, d, tr, ts ++ more, false, rfl, cndAt_toI (e24.toI pre.tr) _ _ hca, by omega,
        pre.part e24 (Cnd.okL_iff.mp okc c cm) hp (by have := ordL_get ol hc; rwa [show (0 : Int) + (i : Int) * 1 = (i : Int) by omega] at this) (x34 _ _ ht3) (by omega) (by rw [Cnd.depth]; omega), fun H5 more2 e5 ht5 hen2 ml2 => ?_⟩
      have e25 : ExB tr H H5 := e24.trans e5
      have hen5 : Ents K H5 (more ++ more2) (acc ++ (rung M R (adr ++ [(i : Int)]) false c).2) :=
        ents_app (ents_toI (e5.toI (x34 _ _ ht3)) (ents_toI (ExI.of (x3.trans x34)) hen)) hen2
      rw [List.append_assoc] at ht5
      rw [firstOf_step hrs] at heq
      generalize hres : rung M R (adr ++ [(i : Int)]) false c = res at heq hen5 ⊢
      refine ⟨_, rfl, rfl, _, rfl, ?_⟩
      have mlw : (more ++ more2).length ≤ Cnd.weightL (cs.take (i + 1)) := by rw [ws1, List.length_append]; omega
      by_cases hu : res.1 = "unknown"
      · refine if_f (by rw [hu]; decide +kernel) ⟨more ++ more2, acc ++ res.2, _, _, _, rfl, e25, ht5, hen5, ?_, mlw⟩
        rw [if_pos hu] at heq
        rw [heq, List.append_assoc]
      · refine if_t (by rw [decide_eq_false fun z => hu (V.str.inj z)]; rfl) ⟨_, rfl, ?_⟩
        rw [if_neg hu] at heq
        have post := post _ (more ++ more2) e25 ht5
        rw [heq] at post
        exact post hen5 (by rw [Cnd.weight]; have := weightL_take cs (i + 1); omega)
    · rintro σ H2 ⟨more, acc, x6, x7, x8, rfl, e2, ht2, hen, heq, hml⟩
      have dl : (rungL M R adr 0 1 false cs).drop xs.length = [] := by rw [List.drop_eq_nil_iff, rungL_len, cnds_len hxs]; exact Nat.le_refl _
      rw [dl] at heq
      have post := post _ more e2 ht2
      rw [heq] at post
      have e0 : firstOf [] = (("unknown" : Str), []) := rfl
      rw [e0, List.append_nil] at post
      exact post hen (by rw [Cnd.weight]; have := weightL_take cs xs.length; omega)
theorem ok_case_said {n : Nat} (T_Asker : AskerT K mg C fI) (D : MDef K C "_case_said" "Asker._case_said" s_Asker__case_said f_Asker__case_said fd_Asker__case_said ["self", "condition", "address", "plain"]) (bi : Bi mg)
    (D_Asker_said : MDef K C "said" "Asker.said" s_Asker_said f_Asker_said fd_Asker_said ["self", "condition", "address", "plain"])
    (G_Asker_said : FnOk P w K mg base CX0 (2 * n + 7) f_Asker_said fd_Asker_said ["self", "condition", "address", "plain"] (spSaid K C n)) :
    FnOk P w K mg base CX0 (2 * n + 7 + 1) f_Asker__case_said fd_Asker__case_said ["self", "condition", "address", "plain"] (spCaseSaid K C n) := by
  refine D.fn.ok sc_Asker__case_said (fun vs H Q E h => ?_) (fun cdv A outer s0 H vs Q E hr h => ?_)
  · obtain ⟨v, M, ws, us, e, ns, R, ad, adr, s, dx, r, d, tr, ts, pl, rfl, _⟩ := h
    rfl
  · obtain ⟨v, M, ws, us, el, ns, R, ad, adr, s, dx, r, d, tr, ts, pl, rfl, hv, dp, pre, post⟩ := h
    refine ⟨_, (pss_cons (ps_asg (pv 1) (pg_tup rfl (pgs_cons (pg_name (i := 4) sc_Asker__case_said.nd rfl (Or.inl rfl)) (pgs_cons (pg_name (i := 5) sc_Asker__case_said.nd rfl (Or.inl rfl)) (pgs_cons (pg_name (i := 6) sc_Asker__case_said.nd rfl (Or.inl rfl)) pgs_nil)))))
  (pss_cons (ps_for PassesOwn.never rfl (pi_enumT rfl bi.enumerate (pa_cons (pv 5) pa_nil)) (pg_tup rfl (pgs_cons (pg_name (i := 7) sc_Asker__case_said.nd rfl (Or.inl rfl)) (pgs_cons (pg_tup rfl (pgs_cons (pg_name (i := 8) sc_Asker__case_said.nd rfl (Or.inl rfl)) (pgs_cons (pg_name (i := 9) sc_Asker__case_said.nd rfl (Or.inl rfl)) pgs_nil))) pgs_nil)))
    (pss_cons (ps_set (i := 10) sc_Asker__case_said.nd rfl (Or.inl rfl) (pe_meth (pv 0) T_Asker.cl D_Asker_said.mt G_Asker_said (hr.mono (by first | decide | omega)) D_Asker_said.bd .nil pass0 (pa_cons (pv 8) (pa_cons (pe_op op_catA (pv 2) (pe_tup (pa_cons (pe_op op_mul pe_int (pv 7)) pa_nil))) (pa_cons pe_bl pa_nil)))))
    (pss_cons (ps_if (pt_cmpR op_eq (pv 10) pe_str (nomark _))
      (pss_one (ps_ret (pv 10)))
      pss_nil)
    (pss_one (ps_if (pt_cmpR op_eq (pv 10) pe_str (nomark _))
      (pss_one (ps_ret (pe_meth (pv 0) T_Asker.cl D_Asker_said.mt G_Asker_said (hr.mono (by first | decide | omega)) D_Asker_said.bd .nil pass0 (pa_cons (pv 9) (pa_cons (pe_op op_catA (pv 2) (pe_tup (pa_cons (pe_op op_add (pe_op op_mul pe_int (pv 7)) pe_int) pa_nil))) (pa_cons (pv 3) pa_nil))))))
      pss_nil)))))
  (pss_one (ps_ret (pe_meth (pv 0) T_Asker.cl D_Asker_said.mt G_Asker_said (hr.mono (by first | decide | omega)) D_Asker_said.bd .nil pass0 (pa_cons (pv 6) (pa_cons (pe_op op_catA (pv 2) (pe_tup (pa_cons (pe_op op_mul pe_int (pe_callB call_len_seq (by rfl) bi.len bt_len (pa_cons (pv 5) pa_nil))) pa_nil))) (pa_cons (pv 3) pa_nil)))))))), ?_⟩
    obtain ⟨a, b, qs, xs, ys, y, rfl, ha, hb, hz, hxs, hys, hy⟩ := hv
    have wt := pre.few
    have dpa := pre.deep
    have ok := pre.ok
    have od := pre.ord
    rw [Cnd.weight] at wt
    rw [Cnd.depth] at dp dpa
    rw [Cnd.ok] at ok
    rw [OrdOk] at od
    obtain ⟨ok1, ok2, ok3, ok4⟩ := ok
    obtain ⟨od1, od2, od3⟩ := od
    obtain ⟨z1, z2⟩ := zip3_len hz
    have xl := cnds_len hxs
    have yl := cnds_len hys
    have ql : qs.length = ws.length := by omega
    generalize hE : rung M R (adr ++ [2 * (ws.length : Int)]) pl el = eres at post
    refine ⟨_, rfl, a, _, rfl, ha, rfl, _, _, rfl, _, _, rfl, _, _, rfl, rfl, ?_⟩
    refine ⟨_, rfl, b, qs.map V.ref, rfl, hb, for_enumT (xs := qs.map V.ref) (fun i σ H' => ∃ (more : List V) (acc : List PyData) (x7 x8 x9 x10 : Option V),
        σ = [some (.ref s), some (.ref a), some (.ref ad), some (.bl pl), some (.str "case"), some (.ref b), some y, x7, x8, x9, x10] ∧ ExB tr H H' ∧ H' tr = some (.lst (ts ++ more)) ∧ Ents K H' more acc ∧
        caseOf (rungL M R adr 0 2 true ws) (rungL M R adr 1 2 pl us) eres = ((caseOf ((rungL M R adr 0 2 true ws).drop i) ((rungL M R adr 1 2 pl us).drop i) eres).1, acc ++ (caseOf ((rungL M R adr 0 2 true ws).drop i) ((rungL M R adr 1 2 pl us).drop i) eres).2) ∧
        more.length ≤ Cnd.weightL (ws.take i)) ?_ (fun i σ H' _ ⟨_, _, _, _, _, _, _, e, _⟩ => (e.toI pre.tr).sq hb) ?_ ?_⟩
    · exact ⟨[], [], none, none, none, none, rfl, ExB.of (Ex.refl H), by rw [List.append_nil]; exact pre.tr, trivial, by simp, Nat.zero_le _⟩
    · rintro i z T σ H2 hi ⟨more, acc, x7, x8, x9, x10, rfl, e2, ht2, hen, heq, hml⟩ nT
      obtain ⟨q, x, y', rfl, hx, hy', hq⟩ := zip3_get hz hi
      obtain ⟨c, hc, hca⟩ := cnds_get hxs hx
      obtain ⟨g, hd, hda⟩ := cnds_get hys hy'
      have cm := List.mem_of_getElem? hc
      have dm := List.mem_of_getElem? hd
      obtain ⟨ws1, ws2⟩ := weightL_step hc
      obtain ⟨us1, us2⟩ := weightL_step hd
      have dc := Cnd.depthL_le.mp (Nat.le_refl (Cnd.depthL ws)) c cm
      have dd := Cnd.depthL_le.mp (Nat.le_refl (Cnd.depthL us)) g dm
      have hrs := rungL_get M R ws adr 0 2 true i c hc
      have hus := rungL_get M R us adr 1 2 pl i g hd
      have oc := ordL_get od1 hc
      have og := ordL_get od2 hd
      rw [show (0 : Int) + (i : Int) * 2 = 2 * (i : Int) by omega] at hrs oc
      rw [show (1 : Int) + (i : Int) * 2 = 2 * (i : Int) + 1 by omega] at hus og
      -- the item
      have x3 := Ex.new (o := .tup [.int (i : Nat), .ref q]) nT
      have tq : SqT K (upd H2 T (.tup [.int (i : Nat), .ref q])) T [.int (i : Nat), .ref q] := SqT.of upd_same
      have ht3 := x3 _ _ ht2
      generalize upd H2 T (.tup [.int (i : Nat), .ref q]) = H3 at x3 tq ht3 ⊢
      have e23 : ExB tr H H3 := e2.trans (ExB.of x3)
      refine ⟨T, _, rfl, tq, rfl, _, _, rfl, _, _, rfl, q, _, rfl, (e23.toI pre.tr).sq hq, rfl, _, _, rfl, _, _, rfl, rfl, rfl, ?_⟩
      refine ⟨_, rfl, s, dx, _, rfl, ins_to pre.ob e23 pre.tr, ask_no (by decide +kernel), _, rfl, _, rfl, _, rfl, 2, _, rfl, rfl, .inl ⟨by decide, by decide⟩, sz1, fun t nt => cat_tup (Q := _) ((Ex.new nt) _ _ (tup_to pre.at_ e23 pre.tr)) upd_same (by omega) fun p H4 e4 hp => ?_⟩
      have x34 := (Ex.new (o := .tup [.int (2 * (i : Int))]) nt).trans e4
      have e24 : ExB tr H H4 := e23.trans (ExB.of x34)
      refine ⟨x, M, c, ns, R, p, adr ++ [2 * (i : Int)], s, dx, r, d, tr, ts ++ more, true, rfl, cndAt_toI (e24.toI pre.tr) _ _ hca, by omega,
        pre.part e24 (Cnd.okL_iff.mp ok2 c cm) hp oc (x34 _ _ ht3) (by omega) (by rw [Cnd.depth]; omega), fun H5 more2 e5 ht5 hen2 ml2 => ?_⟩
      have e25 : ExB tr H H5 := e24.trans e5
      have hen5 : Ents K H5 (more ++ more2) (acc ++ (rung M R (adr ++ [2 * (i : Int)]) true c).2) :=
        ents_app (ents_toI (e5.toI (x34 _ _ ht3)) (ents_toI (ExI.of (x3.trans x34)) hen)) hen2
      rw [List.append_assoc] at ht5
      rw [caseOf_step hrs hus] at heq
      generalize hres : rung M R (adr ++ [2 * (i : Int)]) true c = res at heq hen5 ⊢
      have mlw : (more ++ more2).length ≤ Cnd.weightL (ws.take (i + 1)) := by rw [ws1, List.length_append]; omega
      have wtk := weightL_take ws (i + 1)
      refine ⟨_, rfl, rfl, _, rfl, ?_⟩
      by_cases he : res.1 = "error"
      · refine if_t (by rw [he]; decide +kernel) ⟨_, rfl, ?_⟩
        rw [if_pos he] at heq
        have post := post _ (more ++ more2) e25 ht5
        rw [heq] at post
        exact post hen5 (by rw [Cnd.weight]; omega)
      · refine if_f (decide_eq_false fun z => he (V.str.inj z)) ⟨_, rfl, rfl, _, rfl, ?_⟩
        rw [if_neg he] at heq
        by_cases hyes : res.1 = "yes"
        · refine if_t (by rw [hyes]; decide +kernel) ?_
          rw [if_pos hyes] at heq
          refine ⟨_, rfl, s, dx, _, rfl, ins_to pre.ob e25 pre.tr, ask_no (by decide +kernel), _, rfl, _, rfl, _, rfl, 2, _, rfl, rfl, .inl ⟨by decide, by decide⟩, _, 1, rfl, rfl, sz1, fun t6 n6 => cat_tup (Q := _) ((Ex.new n6) _ _ (tup_to pre.at_ e25 pre.tr)) upd_same (by omega) fun p6 H6 e6 hp6 => ⟨_, rfl, ?_⟩⟩
          have x56 := (Ex.new (o := .tup [.int (2 * (i : Int) + 1)]) n6).trans e6
          have e26 : ExB tr H H6 := e25.trans (ExB.of x56)
          refine ⟨y', M, g, ns, R, p6, adr ++ [2 * (i : Int) + 1], s, dx, r, d, tr, ts ++ (more ++ more2), pl, rfl, cndAt_toI (e26.toI pre.tr) _ _ hda, by omega,
            pre.part e26 (Cnd.okL_iff.mp ok3 g dm) hp6 og (x56 _ _ ht5) (by omega) (by rw [Cnd.depth]; omega), fun H7 more3 e7 ht7 hen3 ml3 => ?_⟩
          rw [List.append_assoc] at ht7
          have post := post _ ((more ++ more2) ++ more3) (e26.trans e7) ht7
          rw [heq] at post
          refine post ?_ (by rw [Cnd.weight, List.length_append]; omega)
          rw [← List.append_assoc]
          exact ents_app (ents_toI (e7.toI (x56 _ _ ht5)) (ents_toI (ExI.of x56) hen5)) hen3
        · refine if_f (decide_eq_false fun z => hyes (V.str.inj z)) ⟨more ++ more2, acc ++ res.2, _, _, _, _, rfl, e25, ht5, hen5, ?_, mlw⟩
          rw [if_neg hyes] at heq
          rw [heq, List.append_assoc]
    · rintro σ H2 ⟨more, acc, x7, x8, x9, x10, rfl, e2, ht2, hen, heq, hml⟩
      have dl : (rungL M R adr 0 2 true ws).drop (qs.map V.ref).length = [] := by rw [List.drop_eq_nil_iff, rungL_len, List.length_map]; omega
      rw [dl] at heq
      have e0 : ∀ us' : List Res, caseOf [] us' eres = eres := fun us' => by unfold caseOf; rfl
      rw [e0] at heq
      have wtk := weightL_take ws (qs.map V.ref).length
      have ql2 : (qs.map V.ref).length = ws.length := by rw [List.length_map]; exact ql
      refine ⟨_, rfl, s, dx, _, rfl, ins_to pre.ob e2 pre.tr, ask_no (by decide +kernel), _, rfl, _, rfl, _, rfl, b, qs.map V.ref, rfl, .inr ((e2.toI pre.tr).sq hb), 2, _, rfl, rfl, .inl ⟨by decide, by decide⟩, sz1, fun t6 n6 => ?_⟩
      rw [ql2]
      refine cat_tup (Q := _) ((Ex.new n6) _ _ (tup_to pre.at_ e2 pre.tr)) upd_same (by omega) fun p6 H6 e6 hp6 => ⟨_, rfl, ?_⟩
      have x56 := (Ex.new (o := .tup [.int (2 * (ws.length : Int))]) n6).trans e6
      have e26 : ExB tr H H6 := e2.trans (ExB.of x56)
      refine ⟨y, M, el, ns, R, p6, adr ++ [2 * (ws.length : Int)], s, dx, r, d, tr, ts ++ more, pl, rfl, cndAt_toI (e26.toI pre.tr) _ _ hy, by omega,
        pre.part e26 ok4 hp6 od3 (x56 _ _ ht2) (by omega) (by rw [Cnd.depth]; omega), fun H7 more3 e7 ht7 hen3 ml3 => ?_⟩
      rw [hE] at hen3 ⊢
      rw [List.append_assoc] at ht7
      have post := post _ (more ++ more3) (e26.trans e7) ht7
      rw [heq] at post
      exact post (ents_app (ents_toI (e7.toI (x56 _ _ ht2)) (ents_toI (ExI.of x56) hen)) hen3) (by rw [Cnd.weight, List.length_append]; omega)
end
end K26

set_option Elab.async false
set_option linter.all false
set_option maxRecDepth 100000
set_option maxHeartbeats 4000000
namespace K26
open PySem PySem.Spec PyProof.Rows L2 Evl Gx
def lkinds : List Str := ["always", "asks", "empty", "number"]
theorem leaf_kind {K : PySem.W.Frag} {H : Hp} {v : V} {l : Leaf} (h : LeafAt K H v l) : ∃ (a : Addr) (kd : Str) (rest : List V), v = .ref a ∧ SqT K H a (.str kd :: rest) ∧ kd ∈ lkinds := by
  cases l with
  | always w => obtain ⟨a, h1, h2⟩ := h; exact ⟨a, "always", _, h1, h2, by decide +kernel⟩
  | empty n => obtain ⟨a, h1, h2⟩ := h; exact ⟨a, "empty", _, h1, h2, by decide +kernel⟩
  | number n => obtain ⟨a, h1, h2⟩ := h; exact ⟨a, "number", _, h1, h2, by decide +kernel⟩
  | asks n ss sg k => obtain ⟨a, b, ws, h1, h2, _⟩ := h; exact ⟨a, "asks", _, h1, h2, by decide +kernel⟩
theorem lkind_law {x : Str} (h : x ∈ lkinds) : inV (.str x) [.str "all", .str "any"] = false ∧ decide (V.str x = .str "not") = false ∧ decide (V.str x = .str "case") = false ∧ decide (V.str x = .str "first") = false := by
  have : ∀ x ∈ lkinds, inV (.str x) [.str "all", .str "any"] = false ∧ decide (V.str x = .str "not") = false ∧ decide (V.str x = .str "case") = false ∧ decide (V.str x = .str "first") = false := by decide +kernel
  exact this x h
theorem none_back {H H' : Hp} {a : Addr} (e : Ex H H') (n : H' a = none) : H a = none := by
  cases h : H a with
  | none => rfl
  | some o => rw [e _ _ h] at n; cases n
def nodesV : List V := [.str "all", .str "any"]
section
variable {P : Program} {w : World} {K : PySem.W.Frag} {mg : Str → Option Value} {base : Heap}
variable {C fI f_Asker_said f_Asker__node_said f_Asker__case_said f_Asker__first_said f_leaf_answer : Addr} {fdI fd_Asker_said fd_Asker__node_said fd_Asker__case_said fd_Asker__first_said fd_leaf_answer : FuncData}
  {a_DECIDES a_OPPOSITES a_NODES : Addr}
theorem ok_said_of {n : Nat} (T_Asker : AskerT K mg C fI) (D : MDef K C "said" "Asker.said" s_Asker_said f_Asker_said fd_Asker_said ["self", "condition", "address", "plain"]) (bi : Bi mg)
    (C_OPPOSITES : ConD K w mg "OPPOSITES" a_OPPOSITES oppo) (C_NODES : ConT K mg "NODES" a_NODES nodesV)
    (D_Asker__node_said : MDef K C "_node_said" "Asker._node_said" s_Asker__node_said f_Asker__node_said fd_Asker__node_said ["self", "condition", "address", "plain"])
    (G_Asker__node_said : FnOk P w K mg base CX0 (2 * n + 7 + 1) f_Asker__node_said fd_Asker__node_said ["self", "condition", "address", "plain"] (spNodeSaid K C n))
    (D_Asker__case_said : MDef K C "_case_said" "Asker._case_said" s_Asker__case_said f_Asker__case_said fd_Asker__case_said ["self", "condition", "address", "plain"])
    (G_Asker__case_said : FnOk P w K mg base CX0 (2 * n + 7 + 1) f_Asker__case_said fd_Asker__case_said ["self", "condition", "address", "plain"] (spCaseSaid K C n))
    (D_Asker__first_said : MDef K C "_first_said" "Asker._first_said" s_Asker__first_said f_Asker__first_said fd_Asker__first_said ["self", "condition", "address"])
    (G_Asker__first_said : FnOk P w K mg base CX0 (2 * n + 7 + 1) f_Asker__first_said fd_Asker__first_said ["self", "condition", "address"] (spFirstSaid K C n))
    (D_leaf_answer : Def K mg "leaf_answer" s_leaf_answer f_leaf_answer fd_leaf_answer ["condition", "row"])
    (G_leaf_answer : FnOk P w K mg base CX0 7 f_leaf_answer fd_leaf_answer ["condition", "row"] (spAskLeaf K))
    (G_Asker_said : FnOk P w K mg base CX0 (2 * n + 7) f_Asker_said fd_Asker_said ["self", "condition", "address", "plain"] (spSaid K C n)) :
    FnOk P w K mg base CX0 (2 * n + 7 + 1 + 1) f_Asker_said fd_Asker_said ["self", "condition", "address", "plain"] (spSaid K C (n + 1)) := by
  have D_Asker_said := D
  refine D.fn.ok sc_Asker_said (fun vs H Q E h => ?_) (fun cdv A outer s0 H vs Q E hr h => ?_)
  · obtain ⟨v, M, c, ns, R, ad, adr, s, dx, r, d, tr, ts, pl, rfl, _⟩ := h
    rfl
  · obtain ⟨v, M, c, ns, R, ad, adr, s, dx, r, d, tr, ts, pl, rfl, hv, dp, pre, post⟩ := h
    refine ⟨_, (pss_cons (ps_set (i := 4) sc_Asker_said.nd rfl (Or.inl rfl) (pe_ix (ix_tupK (K := K) rfl) (pv 1) pe_int (fun _ _ => rfl)))
  (Evl.pss_cut (ps_if (pt_cmpR op_in_seq (pv 4) (pe_glob (v := .ref a_NODES) rfl C_NODES.mg rfl) (by rfl))
    (pss_one (ps_set (i := 5) sc_Asker_said.nd rfl (Or.inl rfl) (pe_meth (pv 0) T_Asker.cl D_Asker__node_said.mt G_Asker__node_said (hr.mono (by first | decide | omega)) D_Asker__node_said.bd .nil pass0 (pa_cons (pv 1) (pa_cons (pv 2) (pa_cons (pv 3) pa_nil))))))
    (pss_one (ps_if (pt_cmpR op_eq (pv 4) pe_str (nomark _))
      (pss_one (ps_set (i := 5) sc_Asker_said.nd rfl (Or.inl rfl) (pe_ix ix_kdict (pe_glob (v := .ref a_OPPOSITES) rfl C_OPPOSITES.mg rfl) (pe_meth (pv 0) T_Asker.cl D_Asker_said.mt G_Asker_said (hr.mono (by first | decide | omega)) D_Asker_said.bd .nil pass0 (pa_cons (pe_ix (ix_tupK (K := K) rfl) (pv 1) pe_int (fun _ _ => rfl)) (pa_cons (pe_op op_catA (pv 2) (pe_tup (pa_cons pe_int pa_nil))) (pa_cons pe_bl pa_nil)))) (fun _ _ => rfl))))
      (pss_one (ps_if (pt_cmpR op_eq (pv 4) pe_str (nomark _))
        (pss_one (ps_set (i := 5) sc_Asker_said.nd rfl (Or.inl rfl) (pe_meth (pv 0) T_Asker.cl D_Asker__case_said.mt G_Asker__case_said (hr.mono (by first | decide | omega)) D_Asker__case_said.bd .nil pass0 (pa_cons (pv 1) (pa_cons (pv 2) (pa_cons (pv 3) pa_nil))))))
        (pss_one (ps_if (pt_cmpR op_eq (pv 4) pe_str (nomark _))
          (pss_one (ps_set (i := 5) sc_Asker_said.nd rfl (Or.inl rfl) (pe_meth (pv 0) T_Asker.cl D_Asker__first_said.mt G_Asker__first_said (hr.mono (by first | decide | omega)) D_Asker__first_said.bd .nil pass0 (pa_cons (pv 1) (pa_cons (pv 2) pa_nil)))))
          (pss_cons (ps_set (i := 5) sc_Asker_said.nd rfl (Or.inl rfl) (pe_call G_leaf_answer (hr.mono (by first | decide | omega)) rfl D_leaf_answer.mg D_leaf_answer.fn.kp D_leaf_answer.bd .nil pass0 (pa_cons (pv 1) (pa_cons (pe_fld (pv 0) rfl) pa_nil))))
          (pss_one (ps_expr (pe_bm PySem.F.plainAttrs_list PySem.F.slot_list_append PySem.F.type_list_append mt_append (pe_fld (pv 0) rfl) (pa_cons (pe_tup (pa_cons (pv 2) (pa_cons (pv 5) pa_nil))) pa_nil))))))))))))
  (pss_one (ps_ret (pe_ifExp (L2.PW.pt (pw_and (pt_val (pe_fld (pv 0) rfl)) (pw_and (pt_val (pv 3)) (pw_and1 (pt_cmpR op_eq (pv 5) pe_str (nomark _)))))) pe_str (pv 5)))))), ?_⟩
    have fin : ∀ (kd : Str) (res : Res) (H' : Hp) (more : List V), ExB tr H H' → H' tr = some (.lst (ts ++ more)) → Ents K H' more res.2 → more.length ≤ c.weight → rung M R adr pl c = low M pl res →
        ∃ (kd : Str) (res : Res) (more : List V), [some (V.ref s), some v, some (V.ref ad), some (V.bl pl), some (V.str kd), some (V.str res.1)] = [some (.ref s), some v, some (.ref ad), some (.bl pl), some (.str kd), some (.str res.1)] ∧
          ExB tr H H' ∧ H' tr = some (.lst (ts ++ more)) ∧ Ents K H' more res.2 ∧ more.length ≤ c.weight ∧ rung M R adr pl c = low M pl res := fun kd res H' more h1 h2 h3 h4 h5 => ⟨kd, res, more, rfl, h1, h2, h3, h4, h5⟩
    have wt := pre.few
    have go : AskPre K C H M c ns R ad adr s dx r d tr ts := pre
    have kindof : ∃ (a : Addr) (kd : Str) (rest : List V), v = .ref a ∧ SqT K H a (.str kd :: rest) ∧ (match c with | .leaf _ => kd ∈ lkinds | .not _ => kd = "not" | .node k _ => kd = k | .case _ _ _ => kd = "case") := by
      cases c with
      | leaf l => exact leaf_kind (show LeafAt K H v l from hv)
      | not c => obtain ⟨a, x, rfl, ha, hx⟩ := hv; exact ⟨a, _, _, rfl, ha, rfl⟩
      | node k cs => obtain ⟨a, b, xs, rfl, ha, _⟩ := hv; exact ⟨a, _, _, rfl, ha, rfl⟩
      | case ws us el => obtain ⟨a, b, qs, xs, ys, y, rfl, ha, _⟩ := hv; exact ⟨a, _, _, rfl, ha, rfl⟩
    obtain ⟨a, kd, rest, rfl, ha, hk⟩ := kindof
    refine ⟨_, rfl, a, _, 0, .str kd, rfl, rfl, ha, atI_of (Int.le_refl 0) rfl, ?_⟩
    refine ⟨fun σ H' => ∃ (kd : Str) (res : Res) (more : List V), σ = [some (.ref s), some (.ref a), some (.ref ad), some (.bl pl), some (.str kd), some (.str res.1)] ∧
          ExB tr H H' ∧ H' tr = some (.lst (ts ++ more)) ∧ Ents K H' more res.2 ∧ more.length ≤ c.weight ∧ rung M R adr pl c = low M pl res, ?_, fun σ H1 m => ?_⟩
    · refine ⟨_, rfl, a_NODES, nodesV, rfl, .inr (C_NODES.at_ H), rfl, by decide +kernel, _, rfl, ?_⟩
      cases c with
      | leaf l =>
        obtain ⟨k1, k2, k3, k4⟩ := lkind_law hk
        refine if_f k1 ⟨_, rfl, rfl, _, rfl, if_f k2 ⟨_, rfl, rfl, _, rfl, if_f k3 ⟨_, rfl, rfl, _, rfl, if_f k4 ?_⟩⟩⟩
        refine ⟨_, rfl, _, rfl, s, C, dx, _, _, rfl, pre.ob, T_Asker.cl, T_Asker.row, ask_row, .ref a, r, l, ns, R, rfl, hv, pre.ok, pre.row, fun H2 e2 => ?_⟩
        refine ⟨_, rfl, s, C, dx, _, _, rfl, e2 _ _ pre.ob, T_Asker.cl, T_Asker.trail, ask_trail, .inl ⟨rfl, _, SqL.of (e2 _ _ pre.tr)⟩, _, rfl, _, rfl, sz2, fun t5 n5 => ⟨tr, ts, .ref t5, rfl, rfl, (Ex.new n5) _ _ (e2 _ _ pre.tr), ?_, ?_⟩⟩
        · exact Nat.lt_of_le_of_lt (show ts.length ≤ 16000000 by omega) (by decide)
        · have x := e2.trans (Ex.new (o := .tup [.ref ad, .str (leafAns R l)]) n5)
          have ei : ExI (upd H2 t5 (.tup [.ref ad, .str (leafAns R l)])) (upd (upd H2 t5 (.tup [.ref ad, .str (leafAns R l)])) tr (.lst (ts ++ [.ref t5]))) := ExI.put (x _ _ pre.tr) rfl
          exact ⟨kd, (leafAns R l, [entry adr (leafAns R l)]), [.ref t5], rfl, (ExB.of x).trans ExB.put, upd_same,
            ⟨⟨t5, ad, adr, _, rfl, rfl, ei.sq (SqT.of upd_same), ei.sq (SqT.of (x _ _ pre.at_))⟩, trivial⟩, by rw [Cnd.weight]; exact Nat.le_trans (by decide : 1 ≤ 1) (by omega), by rw [rung]⟩
      | not c =>
        obtain rfl : kd = "not" := hk
        obtain ⟨a', x, ea, ha', hx⟩ := hv
        cases ea
        have ok := pre.ok
        have od := pre.ord
        have dpa := pre.deep
        rw [Cnd.ok] at ok
        rw [OrdOk] at od
        rw [Cnd.weight] at wt
        rw [Cnd.depth] at dp dpa
        refine if_f (by decide +kernel) ⟨_, rfl, rfl, _, rfl, if_t (by decide +kernel) ?_⟩
        refine ⟨_, rfl, s, dx, _, rfl, pre.ob, ask_no (by decide +kernel), _, rfl, a, _, 1, x, rfl, rfl, ha', rfl, _, rfl, sz1, fun t nt => cat_tup (Q := _) ((Ex.new nt) _ _ pre.at_) upd_same (by omega) fun p4 H4 e4 hp4 => ?_⟩
        have x4 := (Ex.new (o := .tup [.int 0]) nt).trans e4
        refine ⟨x, M, c, ns, R, p4, adr ++ [0], s, dx, r, d, tr, ts ++ [], false, rfl, hx.to x4, by omega,
          pre.part (more := []) (ExB.of x4) ok hp4 od (by rw [List.append_nil]; exact x4 _ _ pre.tr) (by simp; omega) (by rw [Cnd.depth]; omega), fun H5 more2 e5 ht5 hen2 ml2 => ?_⟩
        rw [List.append_nil] at ht5
        refine ⟨a_OPPOSITES, _, _, rfl, rfl, C_OPPOSITES.at_ _ (oppo_in (rung_word c _ _ ok)), ?_⟩
        exact ⟨_, (exch (rung M R (adr ++ [0]) false c).1, (rung M R (adr ++ [0]) false c).2), more2, rfl, (ExB.of x4).trans e5, ht5, hen2, by rw [Cnd.weight]; omega, by rw [rung]⟩
      | node k cs =>
        obtain rfl : kd = k := hk
        have ok := pre.ok
        rw [Cnd.ok] at ok
        rcases kind_law ok.1 with ⟨kt, _⟩ | ⟨rfl, kt⟩
        · have nf : ¬ kd = "first" := fun z => by subst z; revert kt; decide +kernel
          refine if_t kt ⟨_, rfl, s, dx, _, rfl, pre.ob, ask_no (by decide +kernel), _, rfl, _, rfl, _, rfl, .ref a, M, kd, cs, ns, R, ad, adr, s, dx, r, d, tr, ts, pl, rfl, hv, (inV2 _ _ _).mp kt, by omega, pre, fun H5 more e5 ht5 hen ml => ?_⟩
          exact ⟨_, _, more, rfl, e5, ht5, hen, ml, by rw [rung]; unfold nodeG; rw [if_neg nf]⟩
        · refine if_f kt ⟨_, rfl, rfl, _, rfl, if_f (by decide +kernel) ⟨_, rfl, rfl, _, rfl, if_f (by decide +kernel) ⟨_, rfl, rfl, _, rfl, if_t (by decide +kernel) ?_⟩⟩⟩
          refine ⟨_, rfl, s, dx, _, rfl, pre.ob, ask_no (by decide +kernel), _, rfl, _, rfl, .ref a, M, cs, ns, R, ad, adr, s, dx, r, d, tr, ts, rfl, hv, by omega, pre, fun H5 more e5 ht5 hen ml => ?_⟩
          exact ⟨_, _, more, rfl, e5, ht5, hen, ml, by rw [rung]; unfold nodeG; rw [if_pos rfl]⟩
      | case ws us el =>
        obtain rfl : kd = "case" := hk
        refine if_f (by decide +kernel) ⟨_, rfl, rfl, _, rfl, if_f (by decide +kernel) ⟨_, rfl, rfl, _, rfl, if_t (by decide +kernel) ?_⟩⟩
        refine ⟨_, rfl, s, dx, _, rfl, pre.ob, ask_no (by decide +kernel), _, rfl, _, rfl, _, rfl, .ref a, M, ws, us, el, ns, R, ad, adr, s, dx, r, d, tr, ts, pl, rfl, hv, by omega, pre, fun H5 more e5 ht5 hen ml => ?_⟩
        exact ⟨_, _, more, rfl, e5, ht5, hen, ml, by rw [rung]⟩
    · obtain ⟨kd', res, more, rfl, e1, ht1, hen, ml, er⟩ := m
      have post := post H1 more e1 ht1
      rw [er] at post
      have post := post hen ml
      unfold low at post
      refine ⟨_, rfl, s, C, dx, _, _, rfl, ins_to pre.ob e1 pre.tr, T_Asker.cl, T_Asker.lowers, ask_lowers, _, rfl, ?_⟩
      cases hlo : M.lo with
      | false =>
        rw [hlo] at post
        exact if_f rfl (if_f rfl ⟨_, rfl, post⟩)
      | true =>
        rw [hlo] at post
        refine if_t rfl ⟨_, rfl, _, rfl, ?_⟩
        cases pl with
        | false => exact if_f rfl (if_f rfl ⟨_, rfl, post⟩)
        | true =>
          refine if_t rfl ⟨_, rfl, rfl, _, rfl, ?_⟩
          by_cases hu : res.1 = "unknown"
          · rw [decide_eq_true hu] at post
            exact if_t (decide_eq_true (congrArg V.str hu)) post
          · rw [decide_eq_false hu] at post
            exact if_f (decide_eq_false fun z => hu (V.str.inj z)) ⟨_, rfl, post⟩
theorem ok_said (T_Asker : AskerT K mg C fI) (D : MDef K C "said" "Asker.said" s_Asker_said f_Asker_said fd_Asker_said ["self", "condition", "address", "plain"]) (bi : Bi mg)
    (C_DECIDES : ConD K w mg "DECIDES" a_DECIDES decides) (C_OPPOSITES : ConD K w mg "OPPOSITES" a_OPPOSITES oppo) (C_NODES : ConT K mg "NODES" a_NODES nodesV)
    (D_Asker__node_said : MDef K C "_node_said" "Asker._node_said" s_Asker__node_said f_Asker__node_said fd_Asker__node_said ["self", "condition", "address", "plain"])
    (D_Asker__case_said : MDef K C "_case_said" "Asker._case_said" s_Asker__case_said f_Asker__case_said fd_Asker__case_said ["self", "condition", "address", "plain"])
    (D_Asker__first_said : MDef K C "_first_said" "Asker._first_said" s_Asker__first_said f_Asker__first_said fd_Asker__first_said ["self", "condition", "address"])
    (D_leaf_answer : Def K mg "leaf_answer" s_leaf_answer f_leaf_answer fd_leaf_answer ["condition", "row"])
    (G_leaf_answer : FnOk P w K mg base CX0 7 f_leaf_answer fd_leaf_answer ["condition", "row"] (spAskLeaf K)) :
    ∀ n : Nat, FnOk P w K mg base CX0 (2 * n + 7) f_Asker_said fd_Asker_said ["self", "condition", "address", "plain"] (spSaid K C n)
  | 0 => fn_none fun vs H Q E ⟨_, _, _, _, _, _, _, _, _, _, _, _, _, _, _, _, h, _⟩ => absurd h (Nat.not_lt_zero _)
  | n + 1 => by
    have ih := ok_said T_Asker D bi C_DECIDES C_OPPOSITES C_NODES D_Asker__node_said D_Asker__case_said D_Asker__first_said D_leaf_answer G_leaf_answer n
    exact ok_said_of T_Asker D bi C_OPPOSITES C_NODES D_Asker__node_said (ok_node_said T_Asker D_Asker__node_said bi C_DECIDES C_OPPOSITES D ih) D_Asker__case_said (ok_case_said T_Asker D_Asker__case_said bi D ih)
      D_Asker__first_said (ok_first_said T_Asker D_Asker__first_said bi D ih) D_leaf_answer G_leaf_answer ih
end
end K26

set_option Elab.async false
set_option linter.all false
set_option maxRecDepth 100000
set_option maxHeartbeats 4000000
namespace K26
open PySem PySem.Spec PyProof.Rows L2 Evl Gx
abbrev s_answer : Stmt := topS 23
theorem sc_answer : FnScope ["condition", "row"] ["condition", "row"] (defScope s_answer) := ⟨rfl, rfl, rfl, by decide +kernel, rfl, by decide +kernel, by decide +kernel⟩
abbrev s_l_column : Stmt := topS 37
theorem sc_l_column : FnScope ["_law_bag_here", "_law_name", "_law_low"] ["_law_bag_here", "_law_name"] (defScope s_l_column) := ⟨rfl, rfl, rfl, by decide +kernel, rfl, by decide +kernel, by decide +kernel⟩
abbrev s_l_values : Stmt := topS 38
theorem sc_l_values : FnScope ["_law_column_here", "_law_some"] ["_law_column_here"] (defScope s_l_values) := ⟨rfl, rfl, rfl, by decide +kernel, rfl, by decide +kernel, by decide +kernel⟩
abbrev s_l_longer_rows : Stmt := topS 40
theorem sc_l_longer_rows : FnScope ["_law_listed", "_law_column_here", "_law_found", "_law_row", "_law_value"] ["_law_listed", "_law_column_here"] (defScope s_l_longer_rows) := ⟨rfl, rfl, rfl, by decide +kernel, rfl, by decide +kernel, by decide +kernel⟩
abbrev s_l_every_row : Stmt := topS 39
theorem sc_l_every_row : FnScope ["_law_columns", "_law_found", "_law_column_here"] ["_law_columns"] (defScope s_l_every_row) := ⟨rfl, rfl, rfl, by decide +kernel, rfl, by decide +kernel, by decide +kernel⟩
/-- a dict made for the asking: the list that grows is new -/
theorem exB_new {tr : Addr} {H H1 H2 : Hp} (n : H tr = none) (e : Ex H H1) (b : ExB tr H1 H2) : Ex H H2 := fun a o h =>
  b a o (fun z => by subst z; rw [n] at h; cases h) (e a o h)
def spAnswer (K : PySem.W.Frag) : Sp := fun vs H Q _ => ∃ v c ns R r, vs = [v, .ref r] ∧ CndAt K H v c ∧ c.ok ns ∧ c.depth < 8 ∧ c.weight ≤ 16000000 ∧ RowAt H r ns R ∧
  ∀ H', Ex H H' → Q (.str (Gx.run R [] c).1) H'
def spAsked (K : PySem.W.Frag) : Sp := fun vs H Q _ => ∃ v c ns R r, vs = [v, .ref r] ∧ CndAt K H v c ∧ c.ok ns ∧ c.depth < 8 ∧ c.weight ≤ 16000000 ∧ RowAt H r ns R ∧
  ∀ (l : Addr) (more : List V) (H' : Hp), Ex H H' → H l = none → H' l = some (.lst more) → Ents K H' more (Gx.run R [] c).2 → more.length ≤ 16000000 → Q (.ref l) H'
def ColAt (K : PySem.W.Frag) (H : Hp) (v : V) (nm : Str) : Prop := ∃ (ct : Addr) (low hi : Int) (b1 b2 : Bool), v = .ref ct ∧ SqT K H ct [.str nm, .int low, .int hi, .bl b1, .bl b2] ∧
  -1000 ≤ low ∧ low ≤ 1000 ∧ low ≤ hi ∧ hi ≤ low + 40
def spColumn (K : PySem.W.Frag) : Sp := fun vs H Q _ => ∃ (b : Addr) (nm : Str), vs = [.ref b, .str nm] ∧ Bag H b ∧ ∀ v H', Ex H H' → ColAt K H' v nm → Q v H'
def spValues (K : PySem.W.Frag) : Sp := fun vs H Q _ => ∃ v nm, vs = [v] ∧ ColAt K H v nm ∧ ∀ (l : Addr) (xs : List V) (H' : Hp), Ex H H' → H l = none → H' l = some (.lst xs) → xs.length ≤ 50 → 0 < xs.length → (∀ x ∈ xs, valOk x) → Q (.ref l) H'
def KeyRow (H : Hp) (r : Addr) (ks : List Str) : Prop := ∃ kvs : List (Key × V), H r = some (.dK kvs) ∧ kvs.map (·.1) = ks.map Sum.inr ∧ ∀ kv ∈ kvs, valOk kv.2
def spLonger (K : PySem.W.Frag) : Sp := fun vs H Q _ => ∃ (l : Addr) (v : V) (rs : List Addr) (ks : List Str) (nm : Str), vs = [.ref l, v] ∧ SqL K H l (rs.map V.ref) ∧ rs.length ≤ 10000 ∧
  (∀ r ∈ rs, KeyRow H r ks) ∧ ColAt K H v nm ∧ (ks ++ [nm]).Nodup ∧ ks.length ≤ 10 ∧
  ∀ (l' : Addr) (rs' : List Addr) (H' : Hp), Ex H H' → H' l' = some (.lst (rs'.map V.ref)) → rs'.length ≤ rs.length * 50 → (0 < rs.length → 0 < rs'.length) → (∀ r ∈ rs', KeyRow H' r (ks ++ [nm])) → Q (.ref l') H'
def spEvery (K : PySem.W.Frag) : Sp := fun vs H Q _ => ∃ (l : Addr) (xs : List V) (nms : List Str), vs = [.ref l] ∧ SqL K H l xs ∧ Paired (ColAt K H) xs nms ∧ nms.length ≤ 2 ∧ nms.Nodup ∧
  ∀ (l' : Addr) (rs' : List Addr) (H' : Hp), Ex H H' → H' l' = some (.lst (rs'.map V.ref)) → (0 < rs'.length ∧ rs'.length ≤ 2500) → (∀ r ∈ rs', KeyRow H' r nms) → Q (.ref l') H'
theorem ColAt.to {K : PySem.W.Frag} {H H' : Hp} {v : V} {nm : Str} (h : ColAt K H v nm) (e : Ex H H') : ColAt K H' v nm := by
  obtain ⟨ct, low, hi, b1, b2, h1, h2, h3⟩ := h
  exact ⟨ct, low, hi, b1, b2, h1, ex_t e h2, h3⟩
theorem KeyRow.to {H H' : Hp} {r : Addr} {ks : List Str} (h : KeyRow H r ks) (e : Ex H H') : KeyRow H' r ks := by
  obtain ⟨kvs, h1, h2⟩ := h
  exact ⟨kvs, e _ _ h1, h2⟩
theorem KeyRow.toB {H H' : Hp} {r tr : Addr} {ks : List Str} {ts : List V} (h : KeyRow H r ks) (e : ExB tr H H') (ht : H tr = some (.lst ts)) : KeyRow H' r ks := by
  obtain ⟨kvs, h1, h2⟩ := h
  exact ⟨kvs, e _ _ (fun z => by subst z; rw [ht] at h1; cases h1) h1, h2⟩
theorem merge_new : ∀ (kvs acc : List (Key × V)), ((acc ++ kvs).map (·.1)).Nodup → mergeK acc kvs = acc ++ kvs
  | [], acc, _ => by rw [List.append_nil]; rfl
  | kv :: kvs, acc, h => by
    have e : mergeK acc (kv :: kvs) = mergeK (putK acc kv.1 kv.2) kvs := rfl
    have n : (acc.any fun z => decide (z.1 = kv.1)) = false := by
      rw [List.any_eq_false]
      intro z hz
      rw [List.map_append, List.nodup_append] at h
      have := h.2.2 z.1 (List.mem_map_of_mem hz) kv.1 (by simp)
      simpa using this
    have p : putK acc kv.1 kv.2 = acc ++ [kv] := by
      unfold putK
      rw [if_neg (by rw [n]; exact Bool.false_ne_true)]
    rw [e, p, merge_new kvs (acc ++ [kv]) (by rw [List.append_assoc]; exact h), List.append_assoc]
    rfl
section
variable {P : Program} {w : World} {K : PySem.W.Frag} {mg : Str → Option Value} {base : Heap}
variable {C fI f_Asker_said f_l_take f_l_values f_l_longer_rows : Addr} {fdI fd_Asker_said fd_l_take fd_l_values fd_l_longer_rows : FuncData}
theorem rowAt_ex {H H' : Hp} {r : Addr} {ns : List Str} {R : Str → V} (h : RowAt H r ns R) (e : Ex H H') : RowAt H' r ns R := by
  obtain ⟨kvs, h1, h2⟩ := h
  exact ⟨kvs, e _ _ h1, h2⟩
/-- the one who asks is made: what stood stands -/
theorem made_ex {H H1 H' : Hp} {x dx : Addr} {o o2 : HO} (nx : H1 x = none) (ndx : H1 dx = none) (e : Ex H H1)
    (fr : ∀ b z, (upd (upd H1 dx o) x o2) b = some z → b ≠ x → H' b = some z) : Ex H H' := by
  intro b z h
  have h1 := e b z h
  have n1 : b ≠ x := ne_of_none h1 nx
  have n2 : b ≠ dx := ne_of_none h1 ndx
  exact fr b z (by rw [upd_ne n1, upd_ne n2]; exact h1) n1
theorem ok_answer {f : Addr} {fd : FuncData} (D : Def K mg "answer" s_answer f fd ["condition", "row"]) (bi : Bi mg)
    (T_Asker : AskerT K mg C fI) (D_Asker___init : MDef K C "__init__" "Asker.__init__" s_Asker___init fI fdI ["self", "row", "plan", "every", "lowers"])
    (G_Asker___init : FnOk P w K mg base CX0 1 fI fdI ["self", "row", "plan", "every", "lowers"] (spAskerI K C))
    (D_Asker_said : MDef K C "said" "Asker.said" s_Asker_said f_Asker_said fd_Asker_said ["self", "condition", "address", "plain"])
    (G_Asker_said : FnOk P w K mg base CX0 23 f_Asker_said fd_Asker_said ["self", "condition", "address", "plain"] (spSaid K C 8)) :
    FnOk P w K mg base CX0 24 f fd ["condition", "row"] (spAnswer K) := by
  refine D.fn.ok sc_answer (fun vs H Q E h => ?_) (fun cdv A outer s0 H vs Q E hr h => ?_)
  · obtain ⟨v, c, ns, R, r, rfl, _⟩ := h
    rfl
  · obtain ⟨v, c, ns, R, r, rfl, hv, ok, dp, wt, row, k⟩ := h
    refine ⟨_, (pss_one (ps_ret (pe_meth (pe_make T_Asker.mak G_Asker___init (hr.mono (by first | decide | omega)) rfl T_Asker.gC D_Asker___init.bd .nil pass0 (pa_cons (pv 1) (pa_cons pe_dnewT (pa_cons pe_bl (pa_cons pe_bl pa_nil))))) T_Asker.cl D_Asker_said.mt G_Asker_said (hr.mono (by first | decide | omega)) D_Asker_said.bd .nil pass0 (pa_cons (pv 0) (pa_cons (pe_tup pa_nil) (pa_cons pe_bl pa_nil)))))), ?_⟩
    refine ⟨_, rfl, fun d nd x dx nx ndx nex => ⟨x, dx, r, d, false, false, rfl, upd_same, fun tr H1 ntr hx htr fr => ⟨rfl, x, dx, _, rfl, hx, ask_no (by decide +kernel), ?_⟩⟩⟩
    have x1 := Ex.new (o := .dT []) nd
    have e1 : Ex H H1 := made_ex nx ndx x1 fr
    have hd1 : H1 d = some (.dT []) := fr _ _ (by
      have h1 : upd H d (.dT []) d = some (.dT []) := upd_same
      rw [upd_ne (ne_of_none h1 nx), upd_ne (ne_of_none h1 ndx)]; exact h1) (ne_of_none (upd_same (H := H) (a := d) (o := .dT [])) nx)
    have ntH : H tr = none := by
      cases q : H tr with
      | none => rfl
      | some o =>
        have h1 := x1 _ _ q
        rw [upd_ne (ne_of_none h1 nx), upd_ne (ne_of_none h1 ndx), h1] at ntr
        cases ntr
    refine ⟨_, rfl, by decide, fun t0 n0 => ?_⟩
    have x2 := Ex.new (o := .tup []) n0
    refine ⟨v, Md0, c, ns, R, t0, [], x, dx, r, d, tr, [], true, rfl, (hv.to e1).to x2, dp, ⟨ok, upd_same, rowAt_ex (rowAt_ex row e1) x2, x2 _ _ hx, plan0 (x2 _ _ hd1), ord0 c [], x2 _ _ htr, by simpa using wt, by simp; omega⟩,
      fun H' more e ht hen ml => ?_⟩
    rw [rung_plain]
    exact k H' (exB_new ntH (e1.trans x2) e)
theorem ok_column {f : Addr} {fd : FuncData} (D : Def K mg "_law_column" s_l_column f fd ["_law_bag_here", "_law_name"]) (bi : Bi mg)
    (D_l_take : Def K mg "_law_take" s_l_take f_l_take fd_l_take ["_law_bag_here", "_law_many"])
    (G_l_take : FnOk P w K mg base CX0 1 f_l_take fd_l_take ["_law_bag_here", "_law_many"] spTake) :
    FnOk P w K mg base CX0 2 f fd ["_law_bag_here", "_law_name"] (spColumn K) := by
  refine D.fn.ok sc_l_column (fun vs H Q E h => ?_) (fun cdv A outer s0 H vs Q E hr h => ?_)
  · obtain ⟨b, nm, rfl, _⟩ := h
    rfl
  · obtain ⟨b, nm, rfl, hb, k⟩ := h
    refine ⟨_, (pss_cons (ps_set (i := 2) sc_l_column.nd rfl (Or.inl rfl) (pe_op op_sub (pe_call G_l_take (hr.mono (by first | decide | omega)) rfl D_l_take.mg D_l_take.fn.kp D_l_take.bd .nil pass0 (pa_cons (pv 0) (pa_cons pe_int pa_nil))) pe_int))
  (pss_one (ps_ret (pe_tup (pa_cons (pv 1) (pa_cons (pv 2) (pa_cons (pe_op op_add (pv 2) (pe_call G_l_take (hr.mono (by first | decide | omega)) rfl D_l_take.mg D_l_take.fn.kp D_l_take.bd .nil pass0 (pa_cons (pv 0) (pa_cons pe_int pa_nil)))) (pa_cons (pe_cmpR op_eq (pe_call G_l_take (hr.mono (by first | decide | omega)) rfl D_l_take.mg D_l_take.fn.kp D_l_take.bd .nil pass0 (pa_cons (pv 0) (pa_cons pe_int pa_nil))) pe_int (nomark _)) (pa_cons (pe_cmpR op_eq (pe_call G_l_take (hr.mono (by first | decide | omega)) rfl D_l_take.mg D_l_take.fn.kp D_l_take.bd .nil pass0 (pa_cons (pv 0) (pa_cons pe_int pa_nil))) pe_int (nomark _)) pa_nil))))))))), ?_⟩
    refine ⟨_, rfl, b, 7, rfl, hb, by decide, by decide, fun x x0 x1 => ⟨x, 4, rfl, rfl, ?_⟩⟩
    refine ⟨_, rfl, _, rfl, _, rfl, _, rfl, b, 5, rfl, hb, by decide, by decide, fun y y0 y1 => ⟨x - 4, y, rfl, rfl, ?_⟩⟩
    refine ⟨_, rfl, b, 2, rfl, hb, by decide, by decide, fun z z0 z1 => ⟨rfl, ?_⟩⟩
    refine ⟨_, rfl, b, 4, rfl, hb, by decide, by decide, fun u u0 u1 => ⟨rfl, sz5, fun t nt => ?_⟩⟩
    exact k _ _ (Ex.new nt) ⟨t, _, _, _, _, rfl, SqT.of upd_same, by omega, by omega, by omega, by omega⟩
end
end K26

set_option Elab.async false
set_option linter.all false
set_option maxRecDepth 100000
set_option maxHeartbeats 4000000
set_option exponentiation.threshold 3000
namespace K26
open PySem PySem.Spec PyProof.Rows L2 Evl Gx
theorem near_ok {i : Int} (h : -100000 ≤ i) (h' : i ≤ 100000) : valOk (.int i) := .inr (.inl ⟨i, rfl, by
  have p : (2 : Nat) ^ 200 = 1606938044258990275541962092341162602522202993782792835301376 := by decide
  rw [p]; omega⟩)
theorem rep_ok {n : Nat} {xs : List V} (h : ∀ x ∈ xs, valOk x) : ∀ x ∈ (List.replicate n xs).flatten, valOk x := fun x hx => by
  obtain ⟨l, h1, h2⟩ := List.mem_flatten.mp hx
  rw [List.eq_of_mem_replicate h1] at h2
  exact h x h2
theorem rep_len {xs : List V} {b : Bool} : (List.replicate (if b = true then (1 : Int) else 0).toNat xs).flatten.length ≤ xs.length := by
  cases b
  · simp
  · simp
section
variable {P : Program} {w : World} {K : PySem.W.Frag} {mg : Str → Option Value} {base : Heap}
variable {f_ask f_l_take f_l_values f_l_longer_rows : Addr} {fd_ask fd_l_take fd_l_values fd_l_longer_rows : FuncData}
theorem ok_values {f : Addr} {fd : FuncData} (D : Def K mg "_law_values" s_l_values f fd ["_law_column_here"]) (bi : Bi mg) :
    FnOk P w K mg base CX0 1 f fd ["_law_column_here"] (spValues K) := by
  refine D.fn.ok sc_l_values (fun vs H Q E h => ?_) (fun cdv A outer s0 H vs Q E hr h => ?_)
  · obtain ⟨v, nm, rfl, _⟩ := h
    rfl
  · obtain ⟨v, nm, rfl, ⟨ct, low, hi, b1, b2, rfl, hct, c1, c2, c3, c4⟩, k⟩ := h
    refine ⟨_, (pss_cons (ps_set (i := 1) sc_l_values.nd rfl (Or.inl rfl) (pe_listRg rfl rfl bi.list (prg_2 rfl bi.range (pe_ix (ix_tupK (K := K) rfl) (pv 0) pe_int (fun _ _ => rfl)) (pe_op op_add (pe_callB (call_min2 rfl) (by rfl) bi.min bt_min (pa_cons (pe_ix (ix_tupK (K := K) rfl) (pv 0) pe_int (fun _ _ => rfl)) (pa_cons (pe_op op_add (pe_ix (ix_tupK (K := K) rfl) (pv 0) pe_int (fun _ _ => rfl)) pe_int) pa_nil))) pe_int))))
  (pss_cons (ps_if (pt_cmpR op_gt (pe_op op_sub (pe_ix (ix_tupK (K := K) rfl) (pv 0) pe_int (fun _ _ => rfl)) (pe_ix (ix_tupK (K := K) rfl) (pv 0) pe_int (fun _ _ => rfl))) pe_int (nomark _))
    (pss_one (ps_set (i := 1) sc_l_values.nd rfl (Or.inl rfl) (pe_op op_cat (pe_op op_cat (pe_slice sl_list (pv 1) po_none (po_some pe_int)) (pe_listRg rfl rfl bi.list (prg_2 rfl bi.range (pe_callB (call_max2 rfl) (by rfl) bi.max bt_max (pa_cons (pe_op op_add (pe_ix (ix_tupK (K := K) rfl) (pv 0) pe_int (fun _ _ => rfl)) pe_int) (pa_cons (pe_un un_neg pe_int) pa_nil))) (pe_op op_add (pe_callB (call_min2 rfl) (by rfl) bi.min bt_min (pa_cons (pe_op op_sub (pe_ix (ix_tupK (K := K) rfl) (pv 0) pe_int (fun _ _ => rfl)) pe_int) (pa_cons pe_int pa_nil))) pe_int)))) (pe_lst (pa_cons (pe_op op_sub (pe_ix (ix_tupK (K := K) rfl) (pv 0) pe_int (fun _ _ => rfl)) pe_int) (pa_cons (pe_ix (ix_tupK (K := K) rfl) (pv 0) pe_int (fun _ _ => rfl)) pa_nil))))))
    pss_nil)
  (pss_one (ps_ret (pe_op op_cat (pe_op op_cat (pv 1) (pe_op op_repL (pe_lst (pa_cons pe_non pa_nil)) (pe_callTy call_int1 (by rfl) bi.int bt_int (pa_cons (pe_ix (ix_tupK (K := K) rfl) (pv 0) pe_int (fun _ _ => rfl)) pa_nil)))) (pe_op op_repL (pe_lst (pa_cons pe_str (pa_cons pe_str pa_nil))) (pe_callTy call_int1 (by rfl) bi.int bt_int (pa_cons (pe_ix (ix_tupK (K := K) rfl) (pv 0) pe_int (fun _ _ => rfl)) pa_nil)))))))), ?_⟩
    refine ⟨_, rfl, ct, _, 1, _, rfl, rfl, hct, rfl, _, rfl, ct, _, 2, _, rfl, rfl, hct, rfl, _, rfl, ct, _, 1, _, rfl, rfl, hct, rfl, low, 40, rfl, rfl, hi, low + 40, rfl, _, 1, rfl, rfl, ?_⟩
    have em : (if low + 40 < hi then low + 40 else hi) = hi := by rw [if_neg (by omega)]
    rw [em]
    refine ⟨low, hi + 1, rfl, rfl, ⟨by omega, by omega, by omega, by omega, by omega⟩, fun q nq => ?_⟩
    have x0 := Ex.new (o := .lst (rgV low (hi + 1))) nq
    have hq : upd H q (.lst (rgV low (hi + 1))) q = some (.lst (rgV low (hi + 1))) := upd_same
    have rl : (rgV low (hi + 1)).length ≤ 41 := by unfold rgV; rw [List.length_map, List.length_range]; omega
    have rp : 0 < (rgV low (hi + 1)).length := by unfold rgV; rw [List.length_map, List.length_range]; omega
    have ro : ∀ x ∈ rgV low (hi + 1), valOk x := fun x hx => by
      unfold rgV at hx
      obtain ⟨j, hj, rfl⟩ := List.mem_map.mp hx
      have := List.mem_range.mp hj
      exact near_ok (by omega) (by omega)
    generalize rgV low (hi + 1) = xs at x0 hq rl rp ro ⊢
    generalize upd H q (.lst xs) = H1 at x0 hq ⊢
    have hc1 := ex_t x0 hct
    refine ⟨_, rfl, ct, _, 2, _, rfl, rfl, hc1, rfl, _, rfl, ct, _, 1, _, rfl, rfl, hc1, rfl, hi, low, rfl, rfl, hi - low, 40, rfl, rfl, _, rfl, if_d (fun h => absurd h (by omega)) (fun _ => ?_)⟩
    refine ⟨_, rfl, sz1, fun p1 n1 => ?_⟩
    have x1 := Ex.new (o := .lst [.non]) n1
    refine ⟨_, rfl, ct, _, 3, _, rfl, rfl, ex_t x1 hc1, rfl, .inr ⟨b1, rfl, p1, _, [.non], rfl, rfl, SqL.of upd_same, ?_, ?_, by show 1 ≤ 100; decide, fun p2 n2 => ?_⟩⟩
    · cases b1 <;> decide
    · cases b1 <;> decide
    have x2 := x1.trans (Ex.new (o := .lst (List.replicate (if b1 = true then (1 : Int) else 0).toNat [V.non]).flatten) n2)
    refine ⟨q, p2, _, _, rfl, rfl, x2 _ _ hq, upd_same, ?_, fun p3 n3 => ?_⟩
    · have := rep_len (xs := [V.non]) (b := b1)
      exact Nat.le_trans (Nat.add_le_add rl this) (by decide)
    have x3 := x2.trans (Ex.new (o := .lst (xs ++ (List.replicate (if b1 = true then (1 : Int) else 0).toNat [V.non]).flatten)) n3)
    have l3 : (xs ++ (List.replicate (if b1 = true then (1 : Int) else 0).toNat [V.non]).flatten).length ≤ 42 := by
      rw [List.length_append]
      have := rep_len (xs := [V.non]) (b := b1)
      exact Nat.add_le_add rl this
    have o3 : ∀ x ∈ xs ++ (List.replicate (if b1 = true then (1 : Int) else 0).toNat [V.non]).flatten, valOk x := fun x hx => by
      rcases List.mem_append.mp hx with g | g
      · exact ro x g
      · exact rep_ok (fun y hy => by rw [List.mem_singleton] at hy; subst hy; exact .inl rfl) x g
    have p3' : 0 < (xs ++ (List.replicate (if b1 = true then (1 : Int) else 0).toNat [V.non]).flatten).length := by rw [List.length_append]; omega
    have u3 : upd (upd (upd H1 p1 (.lst [.non])) p2 (.lst (List.replicate (if b1 = true then (1 : Int) else 0).toNat [V.non]).flatten)) p3 (.lst (xs ++ (List.replicate (if b1 = true then (1 : Int) else 0).toNat [V.non]).flatten)) p3 =
      some (.lst (xs ++ (List.replicate (if b1 = true then (1 : Int) else 0).toNat [V.non]).flatten)) := upd_same
    generalize xs ++ (List.replicate (if b1 = true then (1 : Int) else 0).toNat [V.non]).flatten = ys at x3 l3 o3 p3' u3 ⊢
    generalize upd (upd (upd H1 p1 (.lst [.non])) p2 (.lst (List.replicate (if b1 = true then (1 : Int) else 0).toNat [V.non]).flatten)) p3 (.lst ys) = H3 at x3 u3 ⊢
    refine ⟨sz2, fun p4 n4 => ?_⟩
    have x4 := Ex.new (o := .lst [.str "a", .str "ten"]) n4
    refine ⟨_, rfl, ct, _, 4, _, rfl, rfl, ex_t x4 (ex_t x3 hc1), rfl, .inr ⟨b2, rfl, p4, _, [.str "a", .str "ten"], rfl, rfl, SqL.of upd_same, ?_, ?_, by show 2 ≤ 100; decide, fun p5 n5 => ?_⟩⟩
    · cases b2 <;> decide
    · cases b2 <;> decide
    have x5 := x4.trans (Ex.new (o := .lst (List.replicate (if b2 = true then (1 : Int) else 0).toNat [V.str "a", .str "ten"]).flatten) n5)
    have r5 := rep_len (xs := [V.str "a", .str "ten"]) (b := b2)
    refine ⟨p3, p5, _, _, rfl, rfl, x5 _ _ u3, upd_same, Nat.le_trans (Nat.add_le_add l3 r5) (by decide), fun p6 n6 => ?_⟩
    have x6 := (x0.trans x3).trans (x5.trans (Ex.new (o := .lst (ys ++ (List.replicate (if b2 = true then (1 : Int) else 0).toNat [V.str "a", .str "ten"]).flatten)) n6))
    refine k p6 _ _ x6 (none_back ((x0.trans x3).trans x5) n6) upd_same ?_ (by rw [List.length_append]; omega) fun x hx => ?_
    · rw [List.length_append]; exact Nat.le_trans (Nat.add_le_add l3 r5) (by decide)
    · rcases List.mem_append.mp hx with g | g
      · exact o3 x g
      · refine rep_ok (fun y hy => ?_) x g
        rcases List.mem_cons.mp hy with rfl | hy
        · exact .inr (.inr ⟨_, rfl, ⟨by decide +kernel, by decide +kernel⟩⟩)
        · rw [List.mem_singleton] at hy; subst hy; exact .inr (.inr ⟨_, rfl, ⟨by decide +kernel, by decide +kernel⟩⟩)
theorem ok_longer {f : Addr} {fd : FuncData} (D : Def K mg "_law_longer_rows" s_l_longer_rows f fd ["_law_listed", "_law_column_here"]) (bi : Bi mg)
    (D_l_values : Def K mg "_law_values" s_l_values f_l_values fd_l_values ["_law_column_here"])
    (G_l_values : FnOk P w K mg base CX0 1 f_l_values fd_l_values ["_law_column_here"] (spValues K)) :
    FnOk P w K mg base CX0 2 f fd ["_law_listed", "_law_column_here"] (spLonger K) := by
  refine D.fn.ok sc_l_longer_rows (fun vs H Q E h => ?_) (fun cdv A outer s0 H vs Q E hr h => ?_)
  · obtain ⟨l, v, rs, ks, nm, rfl, _⟩ := h
    rfl
  · obtain ⟨l, v, rs, ks, nm, rfl, hl, rn, hrs, hcol, nd, k10, k⟩ := h
    refine ⟨_, (pss_cons (ps_set (i := 2) sc_l_longer_rows.nd rfl (Or.inl rfl) (pe_lst pa_nil))
  (pss_cons (ps_for PassesOwn.never rfl (pi_list (pv 0)) (pg_name (i := 3) sc_l_longer_rows.nd rfl (Or.inl rfl))
    (pss_one (ps_for PassesOwn.never rfl (pi_list (pe_call G_l_values (hr.mono (by first | decide | omega)) rfl D_l_values.mg D_l_values.fn.kp D_l_values.bd .nil pass0 (pa_cons (pv 1) pa_nil))) (pg_name (i := 4) sc_l_longer_rows.nd rfl (Or.inl rfl))
      (pss_one (ps_expr (pe_bm PySem.F.plainAttrs_list PySem.F.slot_list_append PySem.F.type_list_append mt_append (pv 2) (pa_cons (pe_callTy (call_dictP rfl) (by rfl) bi.dict bt_dict (pa_cons (pe_op op_cat (LiI.pe_listItems (hc := rfl) (hg := rfl) (hm := bi.list) (hv := bt_list) (pv 3)) (pe_lst (pa_cons (pe_tup (pa_cons (pe_ix (ix_tupK (K := K) rfl) (pv 1) pe_int (fun _ _ => rfl)) (pa_cons (pv 4) pa_nil))) pa_nil))) pa_nil)) pa_nil)))))))
  (pss_one (ps_ret (pv 2))))), ?_⟩
    refine ⟨by decide, fun F nF => ?_⟩
    have fst : ∀ {H' : Hp}, Ex H H' → SqL K H' l (rs.map V.ref) := fun e => ex_l e hl
    refine ⟨_, rfl, l, rfl, ⟨_, ex_l (Ex.new nF) hl⟩, for_list (xs := rs.map V.ref) (fun i σ H' => ∃ (x3 x4 : Option V) (fs : List Addr), σ = [some (.ref l), some v, some (.ref F), x3, x4] ∧ Ex H H' ∧
      H' F = some (.lst (fs.map V.ref)) ∧ (fs.length ≤ i * 50 ∧ i ≤ fs.length) ∧ ∀ r ∈ fs, KeyRow H' r (ks ++ [nm])) ?_ (fun i σ H' _ ⟨_, _, _, _, e, _⟩ => fst e) ?_ ?_⟩
    · exact ⟨none, none, [], rfl, Ex.new nF, upd_same, ⟨Nat.zero_le _, Nat.zero_le _⟩, by simp⟩
    · rintro i z σ H1 hi ⟨x3, x4, fs, rfl, e1, hF, fl, hfs⟩
      obtain ⟨r, hri, rfl⟩ : ∃ r, rs[i]? = some r ∧ z = V.ref r := by
        rw [List.getElem?_map] at hi
        obtain ⟨r, h1, h2⟩ := Option.map_eq_some_iff.mp hi
        exact ⟨r, h1, h2.symm⟩
      have il : i < rs.length := (List.getElem?_eq_some_iff.mp hri).1
      have kr := hrs r (List.mem_of_getElem? hri)
      refine ⟨_, rfl, v, nm, rfl, hcol.to e1, fun l2 xs H2 e2 nl2 hl2 xl xp xo => ?_⟩
      have nF2 : l2 ≠ F := fun e => by subst e; rw [hF] at nl2; cases nl2
      refine ⟨l2, rfl, ⟨_, SqL.of hl2⟩, for_list (xs := xs) (fun j σ H' => ∃ (x4 : Option V) (fs : List Addr), σ = [some (.ref l), some v, some (.ref F), some (.ref r), x4] ∧ Ex H H' ∧ ExB F H2 H' ∧
        H' F = some (.lst (fs.map V.ref)) ∧ (fs.length ≤ i * 50 + j ∧ i + j ≤ fs.length) ∧ ∀ r ∈ fs, KeyRow H' r (ks ++ [nm])) ?_ (fun j σ H' _ ⟨_, _, _, _, e, _⟩ => SqL.of (e _ _ nF2 hl2)) ?_ ?_⟩
      · exact ⟨_, fs, rfl, e1.trans e2, ExB.of (Ex.refl H2), e2 _ _ hF, ⟨by omega, by omega⟩, fun r hr => (hfs r hr).to e2⟩
      · rintro j x σ H3 hj ⟨x4, fs, rfl, e3, eb, hF3, fl3, hfs3⟩
        have jl : j < xs.length := (List.getElem?_eq_some_iff.mp hj).1
        have xok := xo x (List.mem_of_getElem? hj)
        obtain ⟨kvs, hk1, hk2, hk3⟩ := kr.to e3
        obtain ⟨ct, low, hi', b1, b2, rfl, hct, _⟩ := hcol.to e3
        refine ⟨_, rfl, .inl ⟨rfl, _, SqL.of hF3⟩, _, rfl, r, kvs, rfl, hk1, fun H4 p ts e4 np nts nin hp hpair => ?_⟩
        have e4 : Ex H3 H4 := fun b o h => e4 b o h
        refine ⟨_, rfl, ct, _, 0, _, rfl, rfl, ex_t e4 hct, rfl, _, rfl, sz2, fun t nt => ?_⟩
        have x5 := Ex.new (o := .tup [.str nm, x]) nt
        have ht : upd H4 t (.tup [.str nm, x]) t = some (.tup [.str nm, x]) := upd_same
        generalize upd H4 t (.tup [.str nm, x]) = H5 at x5 ht ⊢
        refine ⟨sz1, fun l3 nl3 => ?_⟩
        have x6 := Ex.new (o := .lst [.ref t]) nl3
        have kl : kvs.length ≤ 1000 := by
          have := congrArg List.length hk2
          rw [List.length_map, List.length_map] at this
          omega
        have tl : ts.length = kvs.length := Paired.length hpair
        refine ⟨p, l3, _, _, rfl, rfl, x6 _ _ (x5 _ _ hp), upd_same, ?_, fun l4 nl4 => ?_⟩
        · rw [List.length_map]
          exact Nat.le_trans (show ts.length + 1 ≤ 1001 by omega) (by decide)
        have x7 := x6.trans (Ex.new (o := .lst (ts.map V.ref ++ [.ref t])) nl4)
        have x47 := x5.trans x7
        have key : mergeK [] (kvs ++ [(Sum.inr nm, x)]) = kvs ++ [(Sum.inr nm, x)] := by
          rw [merge_new]
          · rfl
          · rw [List.nil_append, List.map_append, hk2]
            have : (ks.map Sum.inr ++ [(Sum.inr nm, x)].map (·.1) : List Key) = (ks ++ [nm]).map Sum.inr := by rw [List.map_append]; rfl
            rw [this]
            exact List.Pairwise.map _ (fun a b h e => h (Sum.inr.inj e)) nd
        refine ⟨l4, ts ++ [t], kvs ++ [(Sum.inr nm, x)], rfl, SqL.of (by rw [upd_same, List.map_append]; rfl), paired_app (L2.Paired.mapP hpair fun a q h => SqT.of (x47 _ _ h)) (.cons (SqT.of (x7 _ _ ht)) .nil), fun d nd' => ?_⟩
        rw [key]
        have e8 := (e4.trans x47).trans (Ex.new (o := .dK (kvs ++ [(Sum.inr nm, x)])) nd')
        have kd : ∀ Hz : Hp, KeyRow (upd Hz d (.dK (kvs ++ [(Sum.inr nm, x)]))) d (ks ++ [nm]) := fun Hz =>
          ⟨_, upd_same, by rw [List.map_append, hk2, List.map_append]; rfl, fun kv hkv => by
            rcases List.mem_append.mp hkv with g | g
            · exact hk3 kv g
            · rw [List.mem_singleton] at g; subst g; exact xok⟩
        refine ⟨F, fs.map V.ref, .ref d, rfl, rfl, e8 _ _ hF3, ?_, _, fs ++ [d], rfl, (e3.trans e8).mut nF, (eb.trans (ExB.of e8)).trans ExB.put, by rw [upd_same, List.map_append]; rfl, ⟨by rw [List.length_append, List.length_singleton]; omega, by rw [List.length_append, List.length_singleton]; omega⟩, fun r' hr' => ?_⟩
        · rw [List.length_map]
          have : i * 50 ≤ 10000 * 50 := Nat.mul_le_mul_right 50 (by omega)
          exact Nat.lt_of_le_of_lt (show fs.length ≤ 1000000 by omega) (by decide)
        · rcases List.mem_append.mp hr' with g | g
          · exact ((hfs3 r' g).to e8).toB ExB.put (e8 _ _ hF3)
          · rw [List.mem_singleton] at g
            subst g
            exact (kd _).toB ExB.put (e8 _ _ hF3)
      · rintro σ H3 ⟨x4, fs', rfl, e3, eb, hF3, fl3, hfs3⟩
        exact ⟨_, _, fs', rfl, e3, hF3, ⟨by omega, by omega⟩, hfs3⟩
    · rintro σ H1 ⟨x3, x4, fs, rfl, e1, hF, fl, hfs⟩
      rw [List.length_map] at fl
      exact ⟨_, rfl, k F fs H1 e1 hF fl.1 (fun _ => by omega) hfs⟩
theorem ok_every {f : Addr} {fd : FuncData} (D : Def K mg "_law_every_row" s_l_every_row f fd ["_law_columns"]) (bi : Bi mg)
    (D_l_longer_rows : Def K mg "_law_longer_rows" s_l_longer_rows f_l_longer_rows fd_l_longer_rows ["_law_listed", "_law_column_here"])
    (G_l_longer_rows : FnOk P w K mg base CX0 2 f_l_longer_rows fd_l_longer_rows ["_law_listed", "_law_column_here"] (spLonger K)) :
    FnOk P w K mg base CX0 3 f fd ["_law_columns"] (spEvery K) := by
  refine D.fn.ok sc_l_every_row (fun vs H Q E h => ?_) (fun cdv A outer s0 H vs Q E hr h => ?_)
  · obtain ⟨l, xs, nms, rfl, _⟩ := h
    rfl
  · obtain ⟨l, xs, nms, rfl, hl, hcs, n2, nd, k⟩ := h
    refine ⟨_, (pss_cons (ps_set (i := 1) sc_l_every_row.nd rfl (Or.inl rfl) (pe_lst (pa_cons pe_dnewK pa_nil)))
  (pss_cons (ps_for PassesOwn.never rfl (pi_list (pv 0)) (pg_name (i := 2) sc_l_every_row.nd rfl (Or.inl rfl))
    (pss_one (ps_set (i := 1) sc_l_every_row.nd rfl (Or.inl rfl) (pe_call G_l_longer_rows (hr.mono (by first | decide | omega)) rfl D_l_longer_rows.mg D_l_longer_rows.fn.kp D_l_longer_rows.bd .nil pass0 (pa_cons (pv 1) (pa_cons (pv 2) pa_nil))))))
  (pss_one (ps_ret (pv 1))))), ?_⟩
    refine fun p np => ⟨sz1, fun q nq => ?_⟩
    have x0 := (Ex.new (o := .dK []) np).trans (Ex.new (o := .lst [.ref p]) nq)
    have hp0 := (Ex.new (o := .lst [.ref p]) nq) _ _ (upd_same (H := H) (a := p) (o := .dK []))
    refine ⟨_, rfl, l, rfl, ⟨_, ex_l x0 hl⟩, for_list (xs := xs) (fun i σ H' => ∃ (x2 : Option V) (l' : Addr) (rs : List Addr), σ = [some (.ref l), some (.ref l'), x2] ∧ Ex H H' ∧
      H' l' = some (.lst (rs.map V.ref)) ∧ (rs.length ≤ 50 ^ i ∧ 0 < rs.length) ∧ ∀ r ∈ rs, KeyRow H' r (nms.take i)) ?_ (fun i σ H' _ ⟨_, _, _, _, e, _⟩ => ex_l e hl) ?_ ?_⟩
    · refine ⟨none, q, [p], rfl, x0, upd_same, ⟨Nat.le_refl _, Nat.zero_lt_one⟩, fun r hr => ?_⟩
      rw [List.mem_singleton] at hr
      subst hr
      exact ⟨[], hp0, rfl, by simp⟩
    · rintro i z σ H1 hi ⟨x2, l', rs, rfl, e1, hl', rl, hrs⟩
      obtain ⟨nm, hnm, hc⟩ := Gx.paired_get hcs hi
      have il : i < nms.length := (List.getElem?_eq_some_iff.mp hnm).1
      have pw : 50 ^ i ≤ 50 := by
        rcases (by omega : i = 0 ∨ i = 1) with rfl | rfl <;> decide
      refine ⟨_, rfl, _, rfl, l', z, rs, nms.take i, nm, rfl, SqL.of hl', by omega, hrs, hc.to e1, ?_, by rw [List.length_take]; omega, fun l2 rs2 H2 e2 hl2 rl2 rg2 hrs2 => ?_⟩
      · rw [← takeS hnm]
        exact nd.sublist (List.take_sublist _ _)
      · refine ⟨_, l2, rs2, rfl, e1.trans e2, hl2, ⟨?_, rg2 rl.2⟩, fun r hr => ?_⟩
        · rw [Nat.pow_succ]
          exact Nat.le_trans rl2 (Nat.mul_le_mul_right 50 rl.1)
        · rw [takeS hnm]
          exact hrs2 r hr
    · rintro σ H1 ⟨x2, l', rs, rfl, e1, hl', rl, hrs⟩
      have xn : xs.length ≤ 2 := by rw [Paired.length hcs]; exact n2
      have pw : 50 ^ xs.length ≤ 2500 := Nat.le_trans (Nat.pow_le_pow_right (by decide) xn) (by decide)
      rw [Paired.length hcs, List.take_length] at hrs
      exact ⟨_, rfl, k l' rs H1 e1 hl' ⟨rl.2, Nat.le_trans rl.1 pw⟩ hrs⟩
end
end K26

set_option Elab.async false
set_option linter.all false
set_option maxRecDepth 100000
set_option maxHeartbeats 4000000
namespace K26
open PySem PySem.Spec PyProof.Rows L2 Evl Gx
abbrev s_l_led : Stmt := topS 41
theorem sc_l_led : FnScope ["_law_steps", "_law_number_here", "_law_word", "_law_k", "_law_known"] ["_law_steps", "_law_number_here"] (defScope s_l_led) := ⟨rfl, rfl, rfl, by decide +kernel, rfl, by decide +kernel, by decide +kernel⟩
abbrev s_l_alike : Stmt := topS 28
theorem sc_l_alike : FnScope ["_law_found", "_law_due_here"] ["_law_found", "_law_due_here"] (defScope s_l_alike) := ⟨rfl, rfl, rfl, by decide +kernel, rfl, by decide +kernel, by decide +kernel⟩
def optV : Option Int → V
  | some m => .int m
  | none => .non
def spLed (K : PySem.W.Frag) : Sp := fun vs H Q _ => ∃ (a : Addr) (ws : List V) (ss : List Stp) (n : Int), vs = [.ref a, .int n] ∧
  SqT K H a ws ∧ StpsAt K H ws ss ∧ (∀ s ∈ ss, Stp.ok s) ∧ ss.length ≤ 10 ∧ n.natAbs < 2 ^ 1000 ∧ ∀ H', Ex H H' → Q (optV (leadAll ss n)) H'
def spAlike (K : PySem.W.Frag) : Sp := fun vs H Q _ => ∃ (x y : V) (d : PyData), vs = [x, y] ∧ Dp K H x d ∧ Dp K H y d ∧
  SeqAt.shaped d = true ∧ d.showable = true ∧ wide d ≤ 10000000 ∧ Q (.bl true) H
theorem dict_look {ps : List (Int × Int)} (nd : (ps.map (·.1)).Nodup) (n : Int) :
    valV (mergeK [] (ps.map fun p => ((Sum.inl p.1 : Key), V.int p.2))) (Sum.inl n) = (look ps n).map V.int := by
  rw [valV_merge _ _ _ (fun _ _ => rfl)]
  · have e : ∀ ps : List (Int × Int), valV (ps.map fun p => ((Sum.inl p.1 : Key), V.int p.2)) (Sum.inl n) = (look ps n).map V.int := by
      intro ps
      induction ps with
      | nil => rfl
      | cons p r ih =>
        by_cases h : p.1 = n
        · rw [List.map_cons, valV_pos (by rw [h])]
          have e2 : look (p :: r) n = some p.2 := by unfold look; rw [List.find?_cons, decide_eq_true h]; rfl
          rw [e2]; rfl
        · rw [List.map_cons, valV_neg (fun z => h (Sum.inl.inj z)), ih]
          have e2 : look (p :: r) n = look r n := by unfold look; rw [List.find?_cons, decide_eq_false h]
          rw [e2]
    rw [e]
    cases look ps n <;> rfl
  · have e : (ps.map fun p => ((Sum.inl p.1 : Key), V.int p.2)).map (·.1) = (ps.map (·.1)).map Sum.inl := by simp
    rw [e]
    exact nd.map _ (fun a b h h2 => h (Sum.inl.inj h2))
section
variable {P : Program} {w : World} {K : PySem.W.Frag} {mg : Str → Option Value} {base : Heap} {C fI : Addr} {fdI : FuncData}
theorem ok_alike {f : Addr} {fd : FuncData} (D : Def K mg "_law_alike" s_l_alike f fd ["_law_found", "_law_due_here"]) (bi : Bi mg) :
    FnQ P w K mg base CX0 1 f fd ["_law_found", "_law_due_here"] (spAlike K) := by
  refine fnq_ok D.fn sc_l_alike (fun vs H Q E h => ?_) (fun cdv A outer s0 H vs Q E hr qu h => ?_)
  · obtain ⟨x, y, d, rfl, _⟩ := h
    rfl
  · obtain ⟨x, y, d, rfl, hx, hy, h1, h2, h3, k⟩ := h
    have hu64 := hr.units
    have hu2 : (A.deeper (envOfC "_law_alike" (defScope s_l_alike) s0.heap.objs.size f cdv)).units + 200 < cLine := by have := hr.un; omega
    refine ⟨_, (pss_one (ps_ret (pe_and (pe_cmpR (op_eqD hu64) (pv 0) (pv 1) (nomark _)) (pe_one (pe_cmpR op_eq (pe_callB (call_repD qu hu2) (by rfl) bi.repr bt_repr (pa_cons (pv 0) pa_nil)) (pe_callB (call_repD qu hu2) (by rfl) bi.repr bt_repr (pa_cons (pv 1) pa_nil)) (nomark _)))))), ?_⟩
    have dd : d.hasDict = false := PyData.hasDict_of_canLay d (SeqAt.canLay_of_shaped h1)
    have dp : d.depth ≤ 100 := Nat.le_trans (SeqAt.depth_of_shaped h1) (by decide)
    refine ⟨_, rfl, _, rfl, d, d, hx, hy, h1, h1, _, rfl, ?_⟩
    rw [SeqAt.eqv_refl d (SeqAt.canLay_of_shaped h1)]
    refine iteT ⟨_, rfl, x, d, rfl, hx, h2, dd, dp, h3, _, rfl, y, d, rfl, hy, h2, dd, dp, h3, rfl, ?_⟩
    rw [decide_eq_true rfl]
    exact k
theorem ok_led {f : Addr} {fd : FuncData} (D : Def K mg "_law_led" s_l_led f fd ["_law_steps", "_law_number_here"]) (bi : Bi mg) :
    FnOk P w K mg base CX0 1 f fd ["_law_steps", "_law_number_here"] (spLed K) := by
  refine D.fn.ok sc_l_led (fun vs H Q E h => ?_) (fun cdv A outer s0 H vs Q E hr h => ?_)
  · obtain ⟨a, ws, ss, n, rfl, _⟩ := h
    rfl
  · obtain ⟨a, ws, ss, n, rfl, ha, hst, ho, hl, hn, k⟩ := h
    have hu := hu_of hr
    refine ⟨_, (pss_cons (ps_for PassesOwn.never rfl (pi_tup (pv 0)) (pg_tup rfl (pgs_cons (pg_name (i := 2) sc_l_led.nd rfl (Or.inl rfl)) (pgs_cons (pg_name (i := 3) sc_l_led.nd rfl (Or.inl rfl)) pgs_nil)))
    (pss_one (ps_if (pt_cmpR op_eq (pv 2) pe_str (nomark _))
      (pss_one (ps_set (i := 1) sc_l_led.nd rfl (Or.inl rfl) (pe_op op_add (pv 1) (pv 3))))
      (pss_one (ps_if (pt_cmpR op_eq (pv 2) pe_str (nomark _))
        (pss_one (ps_set (i := 1) sc_l_led.nd rfl (Or.inl rfl) (pe_op op_mulW (pv 1) (pv 3))))
        (pss_one (ps_if (pt_cmpR op_eq (pv 2) pe_str (nomark _))
          (pss_one (ps_set (i := 1) sc_l_led.nd rfl (Or.inl rfl) (pe_op op_fdivZ (pv 1) (pv 3))))
          (pss_one (ps_if (pt_cmpR op_eq (pv 2) pe_str (nomark _))
            (pss_cons (ps_if (pt_cmpR op_eq (pv 1) pe_int (nomark _))
              (pss_one (ps_ret pe_non))
              pss_nil)
            (pss_one (ps_set (i := 1) sc_l_led.nd rfl (Or.inl rfl) (pe_op op_fdivZ (pv 3) (pv 1)))))
            (pss_cons (ps_set (i := 4) sc_l_led.nd rfl (Or.inl rfl) (pe_callTy (call_dictT rfl) (by rfl) bi.dict bt_dict (pa_cons (pv 3) pa_nil)))
            (pss_cons (ps_if (pt_cmp (pc_dnotin hu (pv 1) (pv 4)))
              (pss_one (ps_ret pe_non))
              pss_nil)
            (pss_one (ps_set (i := 1) sc_l_led.nd rfl (Or.inl rfl) (pe_dget hu (pv 4) (pv 1) (fun _ _ => rfl)))))))))))))))
  (pss_one (ps_ret (pv 1)))), ?_⟩
    refine ⟨_, rfl, a, rfl, ⟨_, ha⟩, for_tup (xs := ws) (fun i σ H' => ∃ (m : Int) (x2 x3 x4 : Option V), σ = [some (.ref a), some (.int m), x2, x3, x4] ∧
      Ex H H' ∧ leadAll (ss.take i) n = some m ∧ m.natAbs < 2 ^ (1000 + 41 * i)) ?_ (fun i σ H' _ ⟨_, _, _, _, _, e, _⟩ => ex_t e ha) ?_ ?_⟩
    · exact ⟨n, none, none, none, rfl, Ex.refl H, rfl, by simpa using hn⟩
    · rintro i v σ H1 hi ⟨m, x2, x3, x4, rfl, e1, hm, hb⟩
      obtain ⟨s, hs, hv⟩ := Gx.paired_get hst hi
      have hos := ho s (List.mem_of_getElem? hs)
      have il : i < ss.length := (List.getElem?_eq_some_iff.mp hs).1
      have b2 : m.natAbs < 2 ^ 2000 := Nat.lt_of_lt_of_le hb (Nat.pow_le_pow_right (by decide) (by omega))
      have hv := hv.to e1
      have more : ∀ m', lead s m = some m' → leadAll (ss.take (i + 1)) n = some m' ∧ m'.natAbs < 2 ^ (1000 + 41 * (i + 1)) := fun m' e => by
        refine ⟨?_, lead_big hos hb e⟩
        rw [take_snoc hs, leadAll_app, hm]
        show (match lead s m with | some q => leadAll [] q | none => none) = _
        rw [e]; rfl
      have stop : lead s m = none → leadAll ss n = none := fun e => by
        rw [take_cons hs, leadAll_app, hm]
        show (match lead s m with | some q => leadAll _ q | none => none) = _
        rw [e]
      cases s with
      | plus q =>
        obtain ⟨t, rfl, ht⟩ := hv
        refine ⟨t, _, rfl, ht, rfl, _, _, rfl, _, _, rfl, rfl, ?_⟩
        refine ⟨_, rfl, rfl, _, rfl, if_t (by decide +kernel) ⟨_, rfl, _, rfl, m, q, rfl, rfl, ?_⟩⟩
        obtain ⟨g1, g2⟩ := more (m + q) rfl
        exact ⟨m + q, _, _, _, rfl, e1, g1, g2⟩
      | times q =>
        obtain ⟨t, rfl, ht⟩ := hv
        refine ⟨t, _, rfl, ht, rfl, _, _, rfl, _, _, rfl, rfl, ?_⟩
        refine ⟨_, rfl, rfl, _, rfl, if_f (by decide +kernel) ?_⟩
        refine ⟨_, rfl, rfl, _, rfl, if_t (by decide +kernel) ⟨_, rfl, _, rfl, m, q, rfl, rfl, ?_, ?_⟩⟩
        · have h1 := lg b2
          have h2 := lg (bitsK hos.1)
          show m.natAbs.log2 + q.natAbs.log2 < 1000000
          omega
        · obtain ⟨g1, g2⟩ := more (m * q) rfl
          exact ⟨m * q, _, _, _, rfl, e1, g1, g2⟩
      | into q =>
        obtain ⟨t, rfl, ht⟩ := hv
        have k0 : q ≠ 0 := by have := hos.1; omega
        have kn : Near q := ⟨by have := hos.1; omega, hos.2⟩
        refine ⟨t, _, rfl, ht, rfl, _, _, rfl, _, _, rfl, rfl, ?_⟩
        refine ⟨_, rfl, rfl, _, rfl, if_f (by decide +kernel) ?_⟩
        refine ⟨_, rfl, rfl, _, rfl, if_f (by decide +kernel) ?_⟩
        refine ⟨_, rfl, rfl, _, rfl, if_t (by decide +kernel) ⟨_, rfl, _, rfl, m, q, rfl, rfl, divz k0 (bitsK kn), ?_⟩⟩
        obtain ⟨g1, g2⟩ := more (m.fdiv q) rfl
        exact ⟨m.fdiv q, _, _, _, rfl, e1, g1, g2⟩
      | over q =>
        obtain ⟨t, rfl, ht⟩ := hv
        refine ⟨t, _, rfl, ht, rfl, _, _, rfl, _, _, rfl, rfl, ?_⟩
        refine ⟨_, rfl, rfl, _, rfl, if_f (by decide +kernel) ?_⟩
        refine ⟨_, rfl, rfl, _, rfl, if_f (by decide +kernel) ?_⟩
        refine ⟨_, rfl, rfl, _, rfl, if_f (by decide +kernel) ?_⟩
        refine ⟨_, rfl, rfl, _, rfl, if_t (by decide +kernel) ?_⟩
        refine ⟨_, rfl, rfl, _, rfl, if_d (fun h0 => ?_) (fun h0 => ?_)⟩
        · have := k H1 e1
          rw [stop (if_pos (V.int.inj h0))] at this
          exact this
        · have n0 : m ≠ 0 := fun e => h0 (by rw [e])
          refine ⟨_, rfl, _, rfl, q, m, rfl, rfl, divz n0 b2, ?_⟩
          obtain ⟨g1, g2⟩ := more (q.fdiv m) (if_neg n0)
          exact ⟨q.fdiv m, _, _, _, rfl, e1, g1, g2⟩
      | found ps =>
        obtain ⟨t, c, as, rfl, ht, hx, hp⟩ := hv
        refine ⟨t, _, rfl, ht, rfl, _, _, rfl, _, _, rfl, rfl, ?_⟩
        refine ⟨_, rfl, rfl, _, rfl, if_f (by decide +kernel) ?_⟩
        refine ⟨_, rfl, rfl, _, rfl, if_f (by decide +kernel) ?_⟩
        refine ⟨_, rfl, rfl, _, rfl, if_f (by decide +kernel) ?_⟩
        refine ⟨_, rfl, rfl, _, rfl, if_f (by decide +kernel) ?_⟩
        have hp2 : ∀ {as : List Addr} {ps : List (Int × Int)}, Paired (Gx.PairAt K H1) as ps →
            Paired (fun p kv => SqT K H1 p [kV kv.1, kv.2]) as (ps.map fun p => ((Sum.inl p.1 : Key), V.int p.2)) := by
          intro as ps h
          induction h with
          | nil => exact .nil
          | cons h _ ih => exact .cons h ih
        refine ⟨_, rfl, c, as, _, rfl, hx, hp2 hp, fun d hd => ?_⟩
        have e2 := e1.trans (Ex.new (o := .dK (mergeK [] (ps.map fun p => ((Sum.inl p.1 : Key), V.int p.2)))) hd)
        refine ⟨_, rfl, _, rfl, d, _, rfl, DGet.k (k := Sum.inl m) upd_same, _, rfl, ?_⟩
        rw [dict_look hos.1 m]
        cases hk : look ps m with
        | none =>
          refine iteT ?_
          have := k _ e2
          rw [stop hk] at this
          exact this
        | some g =>
          refine iteF ⟨_, rfl, _, rfl, d, .int g, rfl, ?_, ?_⟩
          · have z := DGet.k (k := Sum.inl m) (upd_same (H := H1) (a := d) (o := .dK (mergeK [] (ps.map fun p => ((Sum.inl p.1 : Key), V.int p.2)))))
            rw [dict_look hos.1 m, hk] at z
            exact z
          · obtain ⟨g1, g2⟩ := more g hk
            exact ⟨g, _, _, _, rfl, e2, g1, g2⟩
    · rintro σ H1 ⟨m, x2, x3, x4, rfl, e1, hm, hb⟩
      rw [Paired.length hst, List.take_length] at hm
      have := k H1 e1
      rw [hm] at this
      exact ⟨_, rfl, this⟩
end
end K26

set_option Elab.async false
set_option linter.all false
set_option maxRecDepth 100000
set_option maxHeartbeats 4000000
set_option exponentiation.threshold 3000
namespace K26
open PySem PySem.Spec PyProof.Rows L2 Evl Gx
abbrev s_l_so : Stmt := topS 42
theorem sc_l_so : FnScope ["_law_sign", "_law_number_here", "_law_n", "_law_some"] ["_law_sign", "_law_number_here", "_law_n"] (defScope s_l_so) := ⟨rfl, rfl, rfl, by decide +kernel, rfl, by decide +kernel, by decide +kernel⟩
abbrev s_l_told : Stmt := topS 43
theorem sc_l_told : FnScope ["_law_leaf_here", "_law_row", "_law_value", "_law_number_here"] ["_law_leaf_here", "_law_row"] (defScope s_l_told) := ⟨rfl, rfl, rfl, by decide +kernel, rfl, by decide +kernel, by decide +kernel⟩
def soL (m n : Int) : List (Key × V) := [(Sum.inr "<", .bl (decide (m < n))), (Sum.inr "<=", .bl (decide (m ≤ n))), (Sum.inr "<>", .bl (!decide (V.int m = .int n))), (Sum.inr "=", .bl (decide (V.int m = .int n))), (Sum.inr ">", .bl (decide (n < m)))]
theorem so_val {m k : Int} {sg : Str} (h : sg ∈ sgns) : (valV (mergeK [] (soL m k)) (Sum.inr sg)).getD (.bl (decide (k ≤ m))) = .bl (agreesB m sg k) := by
  have e : mergeK [] (soL m k) = soL m k := by
    rw [merge_new]
    · rfl
    · show (([Sum.inr "<", Sum.inr "<=", Sum.inr "<>", Sum.inr "=", Sum.inr ">"] : List Key)).Nodup
      decide +kernel
  rw [e]
  have v1 : valV (soL m k) (Sum.inr "<" : Key) = some (.bl (decide (m < k))) := rfl
  have v2 : valV (soL m k) (Sum.inr "<=" : Key) = some (.bl (decide (m ≤ k))) := rfl
  have v3 : valV (soL m k) (Sum.inr "<>" : Key) = some (.bl (!decide (V.int m = .int k))) := rfl
  have v4 : valV (soL m k) (Sum.inr "=" : Key) = some (.bl (decide (V.int m = .int k))) := rfl
  have v5 : valV (soL m k) (Sum.inr ">" : Key) = some (.bl (decide (k < m))) := rfl
  have v6 : valV (soL m k) (Sum.inr ">=" : Key) = none := rfl
  have b1 : ∀ sg ∈ sgns, decide (sg ∈ (["<", "<=", "<>"] : List Str)) = decide (sg = "<" ∨ sg = "<=" ∨ sg = "<>") := by decide +kernel
  simp only [sgns, List.mem_cons, List.not_mem_nil, or_false] at h
  unfold agreesB
  rcases h with rfl | rfl | rfl | rfl | rfl | rfl
  · rw [v1]
    rcases Int.lt_trichotomy m k with h | h | h
    · rw [if_pos h, decide_eq_true h]; rfl
    · subst h; rw [if_neg (Int.lt_irrefl _), if_neg (Int.lt_irrefl _), decide_eq_false (Int.lt_irrefl _)]; rfl
    · rw [if_neg (by omega), if_pos h, decide_eq_false (by omega)]; rfl
  · rw [v2]
    rcases Int.lt_trichotomy m k with h | h | h
    · rw [if_pos h, decide_eq_true (by omega)]; rfl
    · subst h; rw [if_neg (Int.lt_irrefl _), if_neg (Int.lt_irrefl _), decide_eq_true (by omega)]; rfl
    · rw [if_neg (by omega), if_pos h, decide_eq_false (by omega)]; rfl
  · rw [v3]
    rcases Int.lt_trichotomy m k with h | h | h
    · rw [if_pos h, decide_eq_false (fun z => by have := V.int.inj z; omega)]; rfl
    · subst h; rw [if_neg (Int.lt_irrefl _), if_neg (Int.lt_irrefl _), decide_eq_true rfl]; rfl
    · rw [if_neg (by omega), if_pos h, decide_eq_false (fun z => by have := V.int.inj z; omega)]; rfl
  · rw [v4]
    rcases Int.lt_trichotomy m k with h | h | h
    · rw [if_pos h, decide_eq_false (fun z => by have := V.int.inj z; omega)]; rfl
    · subst h; rw [if_neg (Int.lt_irrefl _), if_neg (Int.lt_irrefl _), decide_eq_true rfl]; rfl
    · rw [if_neg (by omega), if_pos h, decide_eq_false (fun z => by have := V.int.inj z; omega)]; rfl
  · rw [v5]
    rcases Int.lt_trichotomy m k with h | h | h
    · rw [if_pos h, decide_eq_false (by omega)]; rfl
    · subst h; rw [if_neg (Int.lt_irrefl _), if_neg (Int.lt_irrefl _), decide_eq_false (Int.lt_irrefl _)]; rfl
    · rw [if_neg (by omega), if_pos h, decide_eq_true h]; rfl
  · rw [v6]
    rcases Int.lt_trichotomy m k with h | h | h
    · rw [if_pos h, decide_eq_false (by omega)]; rfl
    · subst h; rw [if_neg (Int.lt_irrefl _), if_neg (Int.lt_irrefl _), decide_eq_true (by omega)]; rfl
    · rw [if_neg (by omega), if_pos h, decide_eq_true (by omega)]; rfl
def spSo : Sp := fun vs H Q _ => ∃ (m k : Int) (sg : Str), vs = [.str sg, .int m, .int k] ∧ sg ∈ sgns ∧ ∀ H', Ex H H' → Q (.bl (agreesB m sg k)) H'
section
variable {P : Program} {w : World} {K : PySem.W.Frag} {mg : Str → Option Value} {base : Heap}
variable {f_answer f_l_led f_l_so : Addr} {fd_answer fd_l_led fd_l_so : FuncData}
def spKeeps (K : PySem.W.Frag) : Sp := fun vs H Q _ => ∃ v c ns R r, vs = [v, .ref r] ∧ CndAt K H v c ∧ c.ok ns ∧ c.depth < 8 ∧ c.weight ≤ 16000000 ∧ RowAt H r ns R ∧
  ∀ H', Ex H H' → Q (.bl (decide (V.str (Gx.run R [] c).1 = .str "yes"))) H'
theorem ok_so {f : Addr} {fd : FuncData} (D : Def K mg "_law_so" s_l_so f fd ["_law_sign", "_law_number_here", "_law_n"]) (bi : Bi mg) :
    FnOk P w K mg base CX0 1 f fd ["_law_sign", "_law_number_here", "_law_n"] spSo := by
  refine D.fn.ok sc_l_so (fun vs H Q E h => ?_) (fun cdv A outer s0 H vs Q E hr h => ?_)
  · obtain ⟨m, k, sg, rfl, _⟩ := h
    rfl
  · obtain ⟨m, k, sg, rfl, hs, kq⟩ := h
    have hu := hu_of hr
    refine ⟨_, (pss_cons (ps_set (i := 3) sc_l_so.nd rfl (Or.inl rfl) (pe_disp (pps_cons pe_str (pe_cmpR op_lt (pv 1) (pv 2) (nomark _)) (pps_cons pe_str (pe_cmpR op_le (pv 1) (pv 2) (nomark _)) (pps_cons pe_str (pe_cmpR op_ne (pv 1) (pv 2) (nomark _)) (pps_cons pe_str (pe_cmpR op_eq (pv 1) (pv 2) (nomark _)) (pps_cons pe_str (pe_cmpR op_gt (pv 1) (pv 2) (nomark _)) pps_nil))))) rfl rfl (fun z => by cases z) (by decide)))
  (pss_one (ps_ret (pe_dget2 hu (pv 3) (pv 0) (pe_cmpR op_ge (pv 1) (pv 2) (nomark _)) ⟨rfl, rfl, rfl, rfl⟩)))), ?_⟩
    refine fun p np => ?_
    refine ⟨_, rfl, _, rfl, m, k, rfl, rfl, _, rfl, _, rfl, m, k, rfl, rfl, _, rfl, _, rfl, rfl, _, rfl, _, rfl, rfl, _, rfl, _, rfl, m, k, rfl, rfl, upd_same, soL m k, rfl, by show 5 ≤ 15; decide, _, rfl, p, rfl, .inl ⟨_, .inl upd_same⟩, _, rfl, _, rfl, _, rfl, m, k, rfl, rfl, _, DGet.k (k := Sum.inr sg) upd_same, ?_⟩
    rw [so_val hs]
    exact kq _ ((Ex.new (o := .dK []) np).mut (o := .dK (mergeK [] (soL m k))) np)
theorem ok_told {f : Addr} {fd : FuncData} (D : Def K mg "_law_told" s_l_told f fd ["_law_leaf_here", "_law_row"]) (bi : Bi mg)
    (D_l_led : Def K mg "_law_led" s_l_led f_l_led fd_l_led ["_law_steps", "_law_number_here"])
    (G_l_led : FnOk P w K mg base CX0 1 f_l_led fd_l_led ["_law_steps", "_law_number_here"] (spLed K))
    (D_l_so : Def K mg "_law_so" s_l_so f_l_so fd_l_so ["_law_sign", "_law_number_here", "_law_n"])
    (G_l_so : FnOk P w K mg base CX0 1 f_l_so fd_l_so ["_law_sign", "_law_number_here", "_law_n"] spSo) :
    FnOk P w K mg base CX0 2 f fd ["_law_leaf_here", "_law_row"] (spAskLeaf K) := by
  refine D.fn.ok sc_l_told (fun vs H Q E h => ?_) (fun cdv A outer s0 H vs Q E hr h => ?_)
  · obtain ⟨v, r, l, ns, R, rfl, _⟩ := h
    rfl
  · obtain ⟨v, r, l, ns, R, rfl, hv, ok, ⟨kvs, hk, hall⟩, k⟩ := h
    have hu := hu_of hr
    refine ⟨_, (pss_cons (ps_if (pt_cmpR op_eq (pe_ix (ix_tupK (K := K) rfl) (pv 0) pe_int (fun _ _ => rfl)) pe_str (nomark _))
    (pss_one (ps_ret (pe_ix (ix_tupK (K := K) rfl) (pv 0) pe_int (fun _ _ => rfl))))
    pss_nil)
  (pss_cons (ps_set (i := 2) sc_l_told.nd rfl (Or.inl rfl) (pe_dget hu (pv 1) (pe_ix (ix_tupK (K := K) rfl) (pv 0) pe_int (fun _ _ => rfl)) (fun _ _ => rfl)))
  (pss_cons (ps_if (pt_cmpR op_eq (pe_ix (ix_tupK (K := K) rfl) (pv 0) pe_int (fun _ _ => rfl)) pe_str (nomark _))
    (pss_one (ps_ret (pe_ifExp (pt_cmpR op_isN (pv 2) pe_non (nomark _)) pe_str pe_str)))
    pss_nil)
  (pss_cons (ps_if (pt_cmpR op_isN (pv 2) pe_non (nomark _))
    (pss_one (ps_ret pe_str))
    pss_nil)
  (pss_cons (ps_if (pt_cmpR op_eq (pe_ix (ix_tupK (K := K) rfl) (pv 0) pe_int (fun _ _ => rfl)) pe_str (nomark _))
    (pss_one (ps_ret (pe_ifExp (pt_val (pe_callB call_isi (by rfl) bi.isinstance bt_isinstance (pa_cons (pv 2) (pa_cons (pe_bltn (v := .ty "str") rfl bi.str bt_str rfl) pa_nil)))) pe_str pe_str)))
    pss_nil)
  (pss_cons (ps_set (i := 3) sc_l_told.nd rfl (Or.inl rfl) (pe_ifExp (pt_val (pe_callB call_isi (by rfl) bi.isinstance bt_isinstance (pa_cons (pv 2) (pa_cons (pe_bltn (v := .ty "str") rfl bi.str bt_str rfl) pa_nil)))) pe_non (pe_call G_l_led (hr.mono (by first | decide | omega)) rfl D_l_led.mg D_l_led.fn.kp D_l_led.bd .nil pass0 (pa_cons (pe_ix (ix_tupK (K := K) rfl) (pv 0) pe_int (fun _ _ => rfl)) (pa_cons (pv 2) pa_nil)))))
  (pss_cons (ps_if (pt_cmpR op_isN (pv 3) pe_non (nomark _))
    (pss_one (ps_ret pe_str))
    pss_nil)
  (pss_one (ps_ret (pe_ifExp (pt_val (pe_call G_l_so (hr.mono (by first | decide | omega)) rfl D_l_so.mg D_l_so.fn.kp D_l_so.bd .nil pass0 (pa_cons (pe_ix (ix_tupK (K := K) rfl) (pv 0) pe_int (fun _ _ => rfl)) (pa_cons (pv 3) (pa_cons (pe_ix (ix_tupK (K := K) rfl) (pv 0) pe_int (fun _ _ => rfl)) pa_nil))))) pe_str pe_str)))))))))), ?_⟩
    have hv0 := hv
    have get : ∀ n, n ∈ ns → ∃ x, DGet H r (.str n) (some x) ∧ x = R n ∧ valOk (R n) := fun n hn => by
      obtain ⟨g1, g2⟩ := hall n hn
      exact ⟨R n, by rw [← g1]; exact DGet.k (k := Sum.inr n) hk, rfl, g2⟩
    cases l with
    | always w =>
      obtain ⟨a, rfl, ha⟩ := hv
      exact ⟨_, rfl, a, _, 0, _, rfl, rfl, ha, rfl, rfl, _, rfl, if_t (by decide +kernel) ⟨_, rfl, a, _, 1, _, rfl, rfl, ha, rfl, k H (Ex.refl H)⟩⟩
    | empty n =>
      obtain ⟨a, rfl, ha⟩ := hv
      obtain ⟨x, g1, g2, g3⟩ := get n ok
      have k := k H (Ex.refl H)
      refine ⟨_, rfl, a, _, 0, _, rfl, rfl, ha, rfl, rfl, _, rfl, if_f (by decide +kernel) ⟨_, rfl, _, rfl, a, _, 1, _, rfl, rfl, ha, rfl, r, x, rfl, g1, ?_⟩⟩
      subst g2
      refine ⟨_, rfl, a, _, 0, _, rfl, rfl, ha, rfl, rfl, _, rfl, if_t (by decide +kernel) ⟨_, rfl, rfl, _, rfl, if_d (fun h1 => ?_) (fun h1 => ?_)⟩⟩
      · rw [show leafAns R (.empty n) = "yes" from if_pos h1] at k; exact k
      · rw [show leafAns R (.empty n) = "no" from if_neg h1] at k; exact k
    | number n =>
      obtain ⟨a, rfl, ha⟩ := hv
      obtain ⟨x, g1, g2, g3⟩ := get n ok
      have k : Q (.str (numV (R n))) H := k H (Ex.refl H)
      refine ⟨_, rfl, a, _, 0, _, rfl, rfl, ha, rfl, rfl, _, rfl, if_f (by decide +kernel) ⟨_, rfl, _, rfl, a, _, 1, _, rfl, rfl, ha, rfl, r, x, rfl, g1, ?_⟩⟩
      rw [← g2] at k g3
      refine ⟨_, rfl, a, _, 0, _, rfl, rfl, ha, rfl, rfl, _, rfl, if_f (by decide +kernel) ?_⟩
      rcases g3 with hx | ⟨i, hx, hi⟩ | ⟨y, hx, _⟩
      · rw [hx] at k ⊢
        exact ⟨_, rfl, rfl, _, rfl, if_t rfl k⟩
      · rw [hx] at k ⊢
        exact ⟨_, rfl, rfl, _, rfl, if_f (decide_eq_false nofun) ⟨_, rfl, a, _, 0, _, rfl, rfl, ha, rfl, rfl, _, rfl, if_t (by decide +kernel)
          ⟨_, rfl, .int i, .ty "str", .type "int", .type "str", false, rfl, .ty "str", .base (.int i), kit_ty (by decide +kernel), _, rfl, if_f rfl k⟩⟩⟩
      · rw [hx] at k ⊢
        exact ⟨_, rfl, rfl, _, rfl, if_f (decide_eq_false nofun) ⟨_, rfl, a, _, 0, _, rfl, rfl, ha, rfl, rfl, _, rfl, if_t (by decide +kernel)
          ⟨_, rfl, .str y, .ty "str", .type "str", .type "str", true, rfl, .ty "str", .base (.str y), kit_ty (by decide +kernel), _, rfl, if_t rfl k⟩⟩⟩
    | asks n ss sg kk =>
      obtain ⟨a, b, ws, rfl, ha, hb, hst⟩ := hv
      obtain ⟨o1, o2, o3, o4, o5⟩ := ok
      obtain ⟨x, g1, g2, g3⟩ := get n o1
      have k : ∀ H', Ex H H' → Q (.str (askV ss sg kk (R n))) H' := k
      refine ⟨_, rfl, a, _, 0, _, rfl, rfl, ha, rfl, rfl, _, rfl, if_f (by decide +kernel) ⟨_, rfl, _, rfl, a, _, 1, _, rfl, rfl, ha, rfl, r, x, rfl, g1, ?_⟩⟩
      rw [← g2] at k g3
      refine ⟨_, rfl, a, _, 0, _, rfl, rfl, ha, rfl, rfl, _, rfl, if_f (by decide +kernel) ?_⟩
      rcases g3 with hx | ⟨i, hx, hi⟩ | ⟨y, hx, _⟩
      · rw [hx] at k ⊢
        exact ⟨_, rfl, rfl, _, rfl, if_t rfl (k H (Ex.refl H))⟩
      · rw [hx] at k ⊢
        refine ⟨_, rfl, rfl, _, rfl, if_f (decide_eq_false nofun) ⟨_, rfl, a, _, 0, _, rfl, rfl, ha, rfl, rfl, _, rfl, if_f (by decide +kernel) ?_⟩⟩
        refine ⟨_, rfl, .int i, .ty "str", .type "int", .type "str", false, rfl, .ty "str", .base (.int i), kit_ty (by decide +kernel), _, rfl, if_f rfl ?_⟩
        refine ⟨_, rfl, a, _, 2, _, rfl, rfl, ha, rfl, _, rfl, b, ws, ss, i, rfl, hb, hst, o2, by omega, Nat.lt_of_lt_of_le hi (Nat.pow_le_pow_right (by decide) (by decide)), fun H1 e1 => ?_⟩
        cases hle : leadAll ss i with
        | none =>
          have k := k H1 e1
          rw [askV_none hle] at k
          exact ⟨_, rfl, rfl, _, rfl, if_t rfl k⟩
        | some m =>
          refine ⟨_, rfl, rfl, _, rfl, if_f (decide_eq_false nofun) ?_⟩
          refine ⟨_, rfl, a, _, 3, _, rfl, rfl, ex_t e1 ha, rfl, _, rfl, _, rfl, a, _, 4, _, rfl, rfl, ex_t e1 ha, rfl, m, kk, sg, rfl, o4, fun H2 e2 => ⟨_, rfl, ?_⟩⟩
          have k := k H2 (e1.trans e2)
          rw [askV_some hle] at k
          by_cases h1 : agreesB m sg kk = true
          · exact if_t h1 (by rw [if_pos h1] at k; exact k)
          · exact if_f (by simpa using h1) (by rw [if_neg h1] at k; exact k)
      · rw [hx] at k ⊢
        refine ⟨_, rfl, rfl, _, rfl, if_f (decide_eq_false nofun) ⟨_, rfl, a, _, 0, _, rfl, rfl, ha, rfl, rfl, _, rfl, if_f (by decide +kernel) ?_⟩⟩
        refine ⟨_, rfl, .str y, .ty "str", .type "str", .type "str", true, rfl, .ty "str", .base (.str y), kit_ty (by decide +kernel), _, rfl, if_t rfl ?_⟩
        exact ⟨_, rfl, rfl, _, rfl, if_t rfl (k H (Ex.refl H))⟩
end
end K26

set_option Elab.async false
set_option linter.all false
set_option maxRecDepth 100000
set_option maxHeartbeats 4000000
namespace K26
open PySem PySem.Spec PyProof.Rows L2 Evl Gx
abbrev s_l_parts : Stmt := topS 44
theorem sc_l_parts : FnScope ["_law_condition", "_law_found", "_law_when", "_law_then"] ["_law_condition"] (defScope s_l_parts) := ⟨rfl, rfl, rfl, by decide +kernel, rfl, by decide +kernel, by decide +kernel⟩
def ilv : List Cnd → List Cnd → List Cnd
  | a :: as, b :: bs => a :: b :: ilv as bs
  | _, _ => []
def partsOf : Cnd → List Cnd
  | .leaf _ => []
  | .not c => [c]
  | .node _ cs => cs
  | .case ws ts e => ilv ws ts ++ [e]
theorem ilv_snoc : ∀ {as bs : List Cnd} {a b : Cnd}, as.length = bs.length → ilv (as ++ [a]) (bs ++ [b]) = ilv as bs ++ [a, b]
  | [], [], a, b, _ => rfl
  | x :: as, y :: bs, a, b, h => by
    show x :: y :: ilv (as ++ [a]) (bs ++ [b]) = _
    rw [ilv_snoc (by simpa using h)]
    rfl
  | [], _ :: _, _, _, h => by simp at h
  | _ :: _, [], _, _, h => by simp at h
theorem ilv_len : ∀ {as bs : List Cnd}, as.length = bs.length → (ilv as bs).length = 2 * as.length
  | [], [], _ => rfl
  | x :: as, y :: bs, h => by
    have := ilv_len (as := as) (bs := bs) (by simpa using h)
    simp only [ilv, List.length_cons, this]
    omega
  | [], _ :: _, h => by simp at h
  | _ :: _, [], h => by simp at h
theorem ilv_get : ∀ {as bs : List Cnd} {i : Nat} {a b : Cnd}, as[i]? = some a → bs[i]? = some b → (ilv as bs)[2 * i]? = some a ∧ (ilv as bs)[2 * i + 1]? = some b
  | [], _, i, a, b, h, _ => by simp at h
  | _ :: _, [], i, a, b, _, h => by simp at h
  | x :: as, y :: bs, 0, a, b, h, h' => by simp at h h'; subst h h'; exact ⟨rfl, rfl⟩
  | x :: as, y :: bs, i + 1, a, b, h, h' => by
    obtain ⟨g1, g2⟩ := ilv_get (as := as) (bs := bs) (i := i) (a := a) (b := b) (by simpa using h) (by simpa using h')
    refine ⟨?_, ?_⟩
    · rw [show 2 * (i + 1) = 2 * i + 1 + 1 by omega]; simpa [ilv] using g1
    · rw [show 2 * (i + 1) + 1 = 2 * i + 1 + 1 + 1 by omega]; simpa [ilv] using g2
def spParts (K : PySem.W.Frag) : Sp := fun vs H Q _ => ∃ v c ns, vs = [v] ∧ CndAt K H v c ∧ c.ok ns ∧ c.weight ≤ 16000000 ∧
  ∀ (l : Addr) (xs : List V) (H' : Hp), Ex H H' → H' l = some (.lst xs) → CndsAt K H' xs (partsOf c) → Q (.ref l) H'
theorem lkind_not {x : Str} (h : x ∈ lkinds) : inV (.str x) [.str "all", .str "any", .str "first"] = false ∧ decide (V.str x = .str "not") = false ∧ decide (V.str x = .str "case") = false := by
  have : ∀ x ∈ lkinds, inV (.str x) [.str "all", .str "any", .str "first"] = false ∧ decide (V.str x = .str "not") = false ∧ decide (V.str x = .str "case") = false := by decide +kernel
  exact this x h
theorem kind_three {x : Str} (h : x ∈ kinds) : inV (.str x) [.str "all", .str "any", .str "first"] = true ∧ decide (V.str x = .str "not") = false ∧ decide (V.str x = .str "case") = false := by
  have : ∀ x ∈ kinds, inV (.str x) [.str "all", .str "any", .str "first"] = true ∧ decide (V.str x = .str "not") = false ∧ decide (V.str x = .str "case") = false := by decide +kernel
  exact this x h
section
variable {P : Program} {w : World} {K : PySem.W.Frag} {mg : Str → Option Value} {base : Heap}
theorem ok_parts {f : Addr} {fd : FuncData} (D : Def K mg "_law_parts" s_l_parts f fd ["_law_condition"]) (bi : Bi mg) :
    FnOk P w K mg base CX0 1 f fd ["_law_condition"] (spParts K) := by
  refine D.fn.ok sc_l_parts (fun vs H Q E h => ?_) (fun cdv A outer s0 H vs Q E hr h => ?_)
  · obtain ⟨v, c, ns, rfl, _⟩ := h
    rfl
  · obtain ⟨v, c, ns, rfl, hv, ok, wt, k⟩ := h
    refine ⟨_, (pss_cons (ps_if (pt_cmpR op_in_seq (pe_ix (ix_tupK (K := K) rfl) (pv 0) pe_int (fun _ _ => rfl)) (pe_tup (pa_cons pe_str (pa_cons pe_str (pa_cons pe_str pa_nil)))) (by rfl))
    (pss_one (ps_ret (pe_callTy call_list_of (by rfl) bi.list bt_list (pa_cons (pe_ix (ix_tupK (K := K) rfl) (pv 0) pe_int (fun _ _ => rfl)) pa_nil))))
    pss_nil)
  (pss_cons (ps_if (pt_cmpR op_eq (pe_ix (ix_tupK (K := K) rfl) (pv 0) pe_int (fun _ _ => rfl)) pe_str (nomark _))
    (pss_one (ps_ret (pe_lst (pa_cons (pe_ix (ix_tupK (K := K) rfl) (pv 0) pe_int (fun _ _ => rfl)) pa_nil))))
    pss_nil)
  (pss_cons (ps_set (i := 1) sc_l_parts.nd rfl (Or.inl rfl) (pe_lst pa_nil))
  (pss_cons (ps_if (pt_cmpR op_eq (pe_ix (ix_tupK (K := K) rfl) (pv 0) pe_int (fun _ _ => rfl)) pe_str (nomark _))
    (pss_cons (ps_for PassesOwn.never rfl (pi_tup (pe_ix (ix_tupK (K := K) rfl) (pv 0) pe_int (fun _ _ => rfl))) (pg_tup rfl (pgs_cons (pg_name (i := 2) sc_l_parts.nd rfl (Or.inl rfl)) (pgs_cons (pg_name (i := 3) sc_l_parts.nd rfl (Or.inl rfl)) pgs_nil)))
      (pss_one (ps_expr (pe_bm PySem.F.plainAttrs_list PySem.F.slot_list_extend PySem.F.type_list_extend mt_extend (pv 1) (pa_cons (pe_lst (pa_cons (pv 2) (pa_cons (pv 3) pa_nil))) pa_nil)))))
    (pss_one (ps_expr (pe_bm PySem.F.plainAttrs_list PySem.F.slot_list_append PySem.F.type_list_append mt_append (pv 1) (pa_cons (pe_ix (ix_tupK (K := K) rfl) (pv 0) pe_int (fun _ _ => rfl)) pa_nil)))))
    pss_nil)
  (pss_one (ps_ret (pv 1))))))), ?_⟩
    cases c with
    | leaf l =>
      obtain ⟨a, kd, rest, rfl, ha, hk⟩ := leaf_kind (show LeafAt K H v l from hv)
      obtain ⟨k1, k2, k3⟩ := lkind_not hk
      refine ⟨_, rfl, a, _, 0, .str kd, rfl, rfl, ha, atI_of (Int.le_refl 0) rfl, sz3, fun t0 n0 => ⟨t0, _, rfl, .inr (SqT.of upd_same), rfl, by decide +kernel, _, rfl, if_f k1 ?_⟩⟩
      have x0 := Ex.new (o := .tup [.str "all", .str "any", .str "first"]) n0
      have ha1 := ex_t x0 ha
      refine ⟨_, rfl, a, _, 0, .str kd, rfl, rfl, ha1, atI_of (Int.le_refl 0) rfl, rfl, _, rfl, if_f k2 ⟨by decide, fun F nF => ?_⟩⟩
      have x1 := x0.trans (Ex.new (o := .lst []) nF)
      exact ⟨_, rfl, a, _, 0, .str kd, rfl, rfl, ex_t (Ex.new nF) ha1, atI_of (Int.le_refl 0) rfl, rfl, _, rfl, if_f k3 ⟨_, rfl, k F [] _ x1 upd_same rfl⟩⟩
    | not c =>
      obtain ⟨a, x, rfl, ha, hx⟩ := hv
      refine ⟨_, rfl, a, _, 0, _, rfl, rfl, ha, rfl, sz3, fun t0 n0 => ⟨t0, _, rfl, .inr (SqT.of upd_same), rfl, by decide +kernel, _, rfl, if_f (by decide +kernel) ?_⟩⟩
      have x0 := Ex.new (o := .tup [.str "all", .str "any", .str "first"]) n0
      have ha1 := ex_t x0 ha
      exact ⟨_, rfl, a, _, 0, _, rfl, rfl, ha1, rfl, rfl, _, rfl, if_t (by decide +kernel) ⟨_, rfl, a, _, 1, x, rfl, rfl, ha1, rfl, sz1, fun F nF =>
        k F [x] _ (x0.trans (Ex.new nF)) upd_same (cnds_one (hx.to (x0.trans (Ex.new nF))))⟩⟩
    | node kd cs =>
      obtain ⟨a, b, xs, rfl, ha, hb, hxs⟩ := hv
      rw [Cnd.ok] at ok
      obtain ⟨k1, _, _⟩ := kind_three ok.1
      refine ⟨_, rfl, a, _, 0, _, rfl, rfl, ha, rfl, sz3, fun t0 n0 => ⟨t0, _, rfl, .inr (SqT.of upd_same), rfl, by decide +kernel, _, rfl, if_t k1 ?_⟩⟩
      have x0 := Ex.new (o := .tup [.str "all", .str "any", .str "first"]) n0
      refine ⟨_, rfl, a, _, 1, _, rfl, rfl, ex_t x0 ha, rfl, ?_⟩
      exact ⟨b, xs, rfl, .inr (ex_t x0 hb), fun F nF => k F xs _ (x0.trans (Ex.new nF)) upd_same (hxs.to (x0.trans (Ex.new nF)))⟩
    | case ws ts e =>
      obtain ⟨a, b, qs, xs, ys, y, rfl, ha, hb, hz, hxs, hys, hy⟩ := hv
      rw [Cnd.ok] at ok
      rw [Cnd.weight] at wt
      obtain ⟨ok1, _⟩ := ok
      have wl := weightL_len ws
      have wl2 := weightL_len ts
      obtain ⟨z1, z2⟩ := zip3_len hz
      have xl := cnds_len hxs
      have yl := cnds_len hys
      refine ⟨_, rfl, a, _, 0, _, rfl, rfl, ha, rfl, sz3, fun t0 n0 => ⟨t0, _, rfl, .inr (SqT.of upd_same), rfl, by decide +kernel, _, rfl, if_f (by decide +kernel) ?_⟩⟩
      have x0 := Ex.new (o := .tup [.str "all", .str "any", .str "first"]) n0
      have ha1 := ex_t x0 ha
      refine ⟨_, rfl, a, _, 0, _, rfl, rfl, ha1, rfl, rfl, _, rfl, if_f (by decide +kernel) ⟨by decide, fun F nF => ?_⟩⟩
      have x1 := x0.trans (Ex.new (o := .lst []) nF)
      have nF0 : H F = none := none_back x0 nF
      refine ⟨_, rfl, a, _, 0, _, rfl, rfl, ex_t x1 ha, rfl, rfl, _, rfl, if_t (by decide +kernel) ?_⟩
      refine ⟨_, rfl, a, _, 1, .ref b, rfl, rfl, ex_t x1 ha, rfl, b, rfl, ⟨_, ex_t x1 hb⟩, for_tup (xs := qs.map V.ref) (fun i σ H' => ∃ (x2 x3 : Option V) (us : List V), σ = [some (.ref a), some (.ref F), x2, x3] ∧ Ex H H' ∧
        H' F = some (.lst us) ∧ CndsAt K H' us (ilv (ws.take i) (ts.take i))) ?_ (fun i σ H' _ ⟨_, _, _, _, e, _⟩ => ex_t e hb) ?_ ?_⟩
      · exact ⟨none, none, [], rfl, x1, upd_same, rfl⟩
      · rintro i z σ H1 hi ⟨x2, x3, us, rfl, e1, hF, hus⟩
        obtain ⟨q, x, y', rfl, hx, hy', hq⟩ := zip3_get hz hi
        obtain ⟨c, hc, hca⟩ := cnds_get hxs hx
        obtain ⟨d, hd, hda⟩ := cnds_get hys hy'
        have il : i < ws.length := (List.getElem?_eq_some_iff.mp hc).1
        have ul := cnds_len hus
        rw [ilv_len (by rw [List.length_take, List.length_take]; omega), List.length_take] at ul
        refine ⟨q, _, rfl, ex_t e1 hq, rfl, _, _, rfl, _, _, rfl, rfl, _, rfl, .inl ⟨rfl, _, SqL.of hF⟩, _, rfl, _, rfl, sz2, fun L nL => ⟨F, L, us, [x, y'], rfl, rfl, (Ex.new nL) _ _ hF, upd_same, ?_, ?_⟩⟩
        · exact Nat.le_trans (show us.length + 2 ≤ 10000000 by omega) (by decide)
        · have e2 := e1.trans (Ex.new (o := .lst [x, y']) nL)
          have ei : ExI (upd H1 L (.lst [x, y'])) (upd (upd H1 L (.lst [x, y'])) F (.lst (us ++ [x, y']))) := ExI.put ((Ex.new nL) _ _ hF) rfl
          refine ⟨_, _, us ++ [x, y'], rfl, e2.mut nF0, upd_same, ?_⟩
          rw [takeS hc, takeS hd, ilv_snoc (by rw [List.length_take, List.length_take]; omega)]
          exact cnds_app (cndsAt_toI ei _ _ (hus.to (Ex.new nL))) ⟨x, [y'], rfl, cndAt_toI ei _ _ (hca.to e2), y', [], rfl, cndAt_toI ei _ _ (hda.to e2), rfl⟩
      · rintro σ H1 ⟨x2, x3, us, rfl, e1, hF, hus⟩
        rw [List.length_map, show ws.take qs.length = ws by rw [List.take_of_length_le (by omega)], show ts.take qs.length = ts by rw [List.take_of_length_le (by omega)]] at hus
        have ul := cnds_len hus
        rw [ilv_len ok1] at ul
        refine ⟨_, rfl, .inl ⟨rfl, _, SqL.of hF⟩, _, rfl, a, _, 2, y, rfl, rfl, ex_t e1 ha, rfl, F, us, y, rfl, rfl, hF, ?_, _, rfl, ?_⟩
        · exact Nat.lt_of_le_of_lt (show us.length ≤ 10000000 by omega) (by decide)
        · have ei : ExI H1 (upd H1 F (.lst (us ++ [y]))) := ExI.put hF rfl
          exact k F (us ++ [y]) _ (e1.mut nF0) upd_same (cnds_app (cndsAt_toI ei _ _ hus) (cnds_one (cndAt_toI ei _ _ (hy.to e1))))
end
end K26

set_option Elab.async false
set_option linter.all false
set_option maxRecDepth 100000
set_option maxHeartbeats 4000000
namespace K26
open PySem PySem.Spec PyProof.Rows L2 Evl Gx
abbrev s_l_listened : Stmt := topS 45
theorem sc_l_listened : FnScope ["_law_condition", "_law_row", "_law_spot", "_law_some", "_law_found", "_law_heard_here", "_law_at", "_law_more", "_law_last", "_law_ends", "_law_answers_here", "_law_part"] ["_law_condition", "_law_row", "_law_spot"] (defScope s_l_listened) := ⟨rfl, rfl, rfl, by decide +kernel, rfl, by decide +kernel, by decide +kernel⟩
structure LPre (K : PySem.W.Frag) (H : Hp) (c : Cnd) (ns : List Str) (R : Str → V) (ad : Addr) (adr : List Int) (r : Addr) : Prop where
  ok : c.ok ns
  at_ : SqT K H ad (adr.map V.int)
  row : RowAt H r ns R
  few : c.weight ≤ 16000000
  deep : adr.length + c.depth ≤ 1000
def LPost (K : PySem.W.Frag) (H : Hp) (Q : VK) (res : Res) : Prop :=
  ∀ (t l : Addr) (more : List V) (H' : Hp), Ex H H' → SqT K H' t [.str res.1, .ref l] → H' l = some (.lst more) → Ents K H' more res.2 → Q (.ref t) H'
def spListened (K : PySem.W.Frag) (n : Nat) : Sp := fun vs H Q _ => ∃ v c ns R ad adr r, vs = [v, .ref r, .ref ad] ∧ CndAt K H v c ∧ c.depth < n ∧ LPre K H c ns R ad adr r ∧ LPost K H Q (Gx.run R adr c)
theorem RowAt.toX {H H' : Hp} {r : Addr} {ns : List Str} {R : Str → V} (h : RowAt H r ns R) (e : Ex H H') : RowAt H' r ns R := by
  obtain ⟨kvs, h1, h2⟩ := h
  exact ⟨kvs, e _ _ h1, h2⟩
theorem LPre.to {K : PySem.W.Frag} {H H' : Hp} {c : Cnd} {ns : List Str} {R : Str → V} {ad : Addr} {adr : List Int} {r : Addr} (p : LPre K H c ns R ad adr r) (e : Ex H H') : LPre K H' c ns R ad adr r :=
  ⟨p.ok, ex_t e p.at_, p.row.toX e, p.few, p.deep⟩
theorem for_enumL {K : PySem.W.Frag} {a : Addr} {xs : List V} {g : TG} {tb : TS} {D : Ends} {σ : L2.St} {H : Hp} (Pv : Nat → L2.St → Hp → Prop)
    (h0 : Pv 0 σ H) (hl : ∀ i σ H, i ≤ xs.length → Pv i σ H → SqL K H a xs)
    (hs : ∀ i x T σ H, xs[i]? = some x → Pv i σ H → H T = none →
      g (.ref T) σ (upd H T (.tup [.int (i : Nat), x])) fun σ2 H2 => tb { D with nx := Pv (i + 1), ct := Pv (i + 1), bk := D.nx } σ2 H2)
    (hd : ∀ σ H, Pv xs.length σ H → D.nx σ H) :
    ∃ W : Nat → Nat → L2.St → Hp → Prop, (∃ m, W 0 m σ H) ∧ ∀ i m σ H, W i m σ H →
      ((Ite K a).stop i H ∧ D.nx σ H) ∨ ((Ite K a).go i H ∧ ∃ N : L2.St → Hp → Prop, (∀ σ' H', N σ' H' → ∃ m', m' < m ∧ W (i + 1) m' σ' H') ∧
        ∀ x H', (Ite K a).yld i H x H' → g x σ H' fun σ2 H2 => tb { D with nx := N, ct := N, bk := D.nx } σ2 H2) := by
  refine ⟨fun i m σ H => m = xs.length - i ∧ i ≤ xs.length ∧ Pv i σ H, ⟨xs.length, by simp, Nat.zero_le _, h0⟩, ?_⟩
  rintro i m σ H ⟨rfl, hi, p⟩
  have q := hl i σ H hi p
  by_cases hlt : i < xs.length
  · refine .inr ⟨⟨xs, xs[i], q, List.getElem?_eq_getElem hlt⟩, Pv (i + 1), fun σ' H' p' => ⟨_, by omega, rfl, hlt, p'⟩, ?_⟩
    rintro v H' ⟨T, x, rfl, nT, rfl, hx⟩
    exact hs i x T σ H (hx xs q) p nT
  · have e : i = xs.length := by omega
    subst e
    exact .inl ⟨⟨xs, q, Nat.le_refl _⟩, hd σ H p⟩
theorem inVn (x a : Str) : inV (.str x) [.str a, .non] = true ↔ x = a := by
  have e : inV (.str x) [.str a, .non] = (a == x) := by simp [inV, eqV]
  rw [e, beq_iff_eq]
  exact ⟨Eq.symm, Eq.symm⟩
theorem inVs (x : Str) : ∀ ws : List Str, inV (.str x) (ws.map V.str) = true ↔ x ∈ ws
  | [] => by simp [inV]
  | w :: ws => by
    have ih := inVs x ws
    have e : inV (.str x) ((w :: ws).map V.str) = (w == x || inV (.str x) (ws.map V.str)) := by simp [inV, eqV]
    rw [e, Bool.or_eq_true, ih, beq_iff_eq, List.mem_cons]
    exact ⟨fun h => h.imp Eq.symm id, fun h => h.imp Eq.symm id⟩
theorem flats : ∀ ws : List Str, (ws.map V.str).all flatV = true
  | [] => rfl
  | w :: ws => by rw [List.map_cons, List.all_cons, flats ws]; rfl
section
variable {P : Program} {w : World} {K : PySem.W.Frag} {mg : Str → Option Value} {base : Heap}
variable {f_l_parts f_l_told f_l_listened : Addr} {fd_l_parts fd_l_told fd_l_listened : FuncData}
theorem ok_listened_of {n : Nat} (D : Def K mg "_law_listened" s_l_listened f_l_listened fd_l_listened ["_law_condition", "_law_row", "_law_spot"]) (bi : Bi mg)
    (D_l_parts : Def K mg "_law_parts" s_l_parts f_l_parts fd_l_parts ["_law_condition"])
    (G_l_parts : FnOk P w K mg base CX0 1 f_l_parts fd_l_parts ["_law_condition"] (spParts K))
    (D_l_told : Def K mg "_law_told" s_l_told f_l_told fd_l_told ["_law_leaf_here", "_law_row"])
    (G_l_told : FnOk P w K mg base CX0 2 f_l_told fd_l_told ["_law_leaf_here", "_law_row"] (spAskLeaf K))
    (G_l_listened : FnOk P w K mg base CX0 (n + 2) f_l_listened fd_l_listened ["_law_condition", "_law_row", "_law_spot"] (spListened K n)) :
    FnOk P w K mg base CX0 (n + 2 + 1) f_l_listened fd_l_listened ["_law_condition", "_law_row", "_law_spot"] (spListened K (n + 1)) := by
  have D_l_listened := D
  refine D.fn.ok sc_l_listened (fun vs H Q E h => ?_) (fun cdv A outer s0 H vs Q E hr h => ?_)
  · obtain ⟨v, c, ns, R, ad, adr, r, rfl, _⟩ := h
    rfl
  · obtain ⟨v, c, ns, R, ad, adr, r, rfl, hv, dp, pre, post⟩ := h
    have hu := hu_of hr
    refine ⟨_, (pss_cons (ps_set (i := 3) sc_l_listened.nd rfl (Or.inl rfl) (pe_call G_l_parts (hr.mono (by first | decide | omega)) rfl D_l_parts.mg D_l_parts.fn.kp D_l_parts.bd .nil pass0 (pa_cons (pv 0) pa_nil)))
  (pss_cons (ps_if (pt_cmpR op_eq (pe_ix (ix_tupK (K := K) rfl) (pv 0) pe_int (fun _ _ => rfl)) pe_str (nomark _))
    (pss_cons (ps_asg (pe_call G_l_listened (hr.mono (by first | decide | omega)) rfl D_l_listened.mg D_l_listened.fn.kp D_l_listened.bd .nil pass0 (pa_cons (pe_ix (ix_tupK (K := K) rfl) (pv 0) pe_int (fun _ _ => rfl)) (pa_cons (pv 1) (pa_cons (pe_op op_catA (pv 2) (pe_tup (pa_cons pe_int pa_nil))) pa_nil)))) (pg_tup rfl (pgs_cons (pg_name (i := 4) sc_l_listened.nd rfl (Or.inl rfl)) (pgs_cons (pg_name (i := 5) sc_l_listened.nd rfl (Or.inl rfl)) pgs_nil))))
    (pss_one (ps_ret (pe_tup (pa_cons (pe_dget2 hu (pe_disp (pps_cons pe_str pe_str (pps_cons pe_str pe_str pps_nil)) rfl rfl (fun z => by cases z) (by decide)) (pv 4) (pv 4) ⟨rfl, rfl, rfl, rfl⟩) (pa_cons (pv 5) pa_nil))))))
    pss_nil)
  (pss_cons (ps_if (pt_cmpR op_eq (pe_ix (ix_tupK (K := K) rfl) (pv 0) pe_int (fun _ _ => rfl)) pe_str (nomark _))
    (pss_cons (ps_set (i := 5) sc_l_listened.nd rfl (Or.inl rfl) (pe_lst pa_nil))
    (pss_cons (ps_for PassesOwn.never rfl (pi_range1 rfl bi.range (pa_cons (pe_op op_fdiv (pe_callB call_len_seq (by rfl) bi.len bt_len (pa_cons (pv 3) pa_nil)) pe_int) pa_nil)) (pg_name (i := 6) sc_l_listened.nd rfl (Or.inl rfl))
      (pss_cons (ps_asg (pe_call G_l_listened (hr.mono (by first | decide | omega)) rfl D_l_listened.mg D_l_listened.fn.kp D_l_listened.bd .nil pass0 (pa_cons (pe_ix (ix_listK (K := K) rfl) (pv 3) (pe_op op_mul pe_int (pv 6)) (fun _ _ => rfl)) (pa_cons (pv 1) (pa_cons (pe_op op_catA (pv 2) (pe_tup (pa_cons (pe_op op_mul pe_int (pv 6)) pa_nil))) pa_nil)))) (pg_tup rfl (pgs_cons (pg_name (i := 4) sc_l_listened.nd rfl (Or.inl rfl)) (pgs_cons (pg_name (i := 7) sc_l_listened.nd rfl (Or.inl rfl)) pgs_nil))))
      (pss_cons (ps_set (i := 5) sc_l_listened.nd rfl (Or.inl rfl) (pe_op op_cat (pv 5) (pv 7)))
      (pss_cons (ps_if (pt_cmpR op_eq (pv 4) pe_str (nomark _))
        (pss_one (ps_ret (pe_tup (pa_cons (pv 4) (pa_cons (pv 5) pa_nil)))))
        pss_nil)
      (pss_one (ps_if (pt_cmpR op_eq (pv 4) pe_str (nomark _))
        (pss_cons (ps_asg (pe_call G_l_listened (hr.mono (by first | decide | omega)) rfl D_l_listened.mg D_l_listened.fn.kp D_l_listened.bd .nil pass0 (pa_cons (pe_ix (ix_listK (K := K) rfl) (pv 3) (pe_op op_add (pe_op op_mul pe_int (pv 6)) pe_int) (fun _ _ => rfl)) (pa_cons (pv 1) (pa_cons (pe_op op_catA (pv 2) (pe_tup (pa_cons (pe_op op_add (pe_op op_mul pe_int (pv 6)) pe_int) pa_nil))) pa_nil)))) (pg_tup rfl (pgs_cons (pg_name (i := 4) sc_l_listened.nd rfl (Or.inl rfl)) (pgs_cons (pg_name (i := 7) sc_l_listened.nd rfl (Or.inl rfl)) pgs_nil))))
        (pss_one (ps_ret (pe_tup (pa_cons (pv 4) (pa_cons (pe_op op_cat (pv 5) (pv 7)) pa_nil))))))
        pss_nil))))))
    (pss_cons (ps_asg (pe_call G_l_listened (hr.mono (by first | decide | omega)) rfl D_l_listened.mg D_l_listened.fn.kp D_l_listened.bd .nil pass0 (pa_cons (pe_ix ix_list (pv 3) (pe_un un_neg pe_int) (fun _ _ => rfl)) (pa_cons (pv 1) (pa_cons (pe_op op_catA (pv 2) (pe_tup (pa_cons (pe_op op_sub (pe_callB call_len_seq (by rfl) bi.len bt_len (pa_cons (pv 3) pa_nil)) pe_int) pa_nil))) pa_nil)))) (pg_tup rfl (pgs_cons (pg_name (i := 4) sc_l_listened.nd rfl (Or.inl rfl)) (pgs_cons (pg_name (i := 7) sc_l_listened.nd rfl (Or.inl rfl)) pgs_nil))))
    (pss_one (ps_ret (pe_tup (pa_cons (pv 4) (pa_cons (pe_op op_cat (pv 5) (pv 7)) pa_nil))))))))
    pss_nil)
  (pss_cons (ps_if (pt_cmpR op_notIn_seq (pe_ix (ix_tupK (K := K) rfl) (pv 0) pe_int (fun _ _ => rfl)) (pe_tup (pa_cons pe_str (pa_cons pe_str (pa_cons pe_str pa_nil)))) (by rfl))
    (pss_one (ps_ret (pe_tup (pa_cons (pe_call G_l_told (hr.mono (by first | decide | omega)) rfl D_l_told.mg D_l_told.fn.kp D_l_told.bd .nil pass0 (pa_cons (pv 0) (pa_cons (pv 1) pa_nil))) (pa_cons (pe_lst (pa_cons (pe_tup (pa_cons (pv 2) (pa_cons (pe_call G_l_told (hr.mono (by first | decide | omega)) rfl D_l_told.mg D_l_told.fn.kp D_l_told.bd .nil pass0 (pa_cons (pv 0) (pa_cons (pv 1) pa_nil))) pa_nil))) pa_nil)) pa_nil)))))
    pss_nil)
  (Evl.pss_cut (ps_asg (pe_dget hu (pe_disp (pps_cons pe_str (pe_tup (pa_cons pe_str (pa_cons pe_str pa_nil))) (pps_cons pe_str (pe_tup (pa_cons pe_str (pa_cons pe_str pa_nil))) (pps_cons pe_str (pe_tup (pa_cons pe_str (pa_cons pe_non pa_nil))) pps_nil))) rfl rfl (fun z => by cases z) (by decide)) (pe_ix (ix_tupK (K := K) rfl) (pv 0) pe_int (fun _ _ => rfl)) (fun _ _ => rfl)) (pg_tup rfl (pgs_cons (pg_name (i := 8) sc_l_listened.nd rfl (Or.inl rfl)) (pgs_cons (pg_name (i := 9) sc_l_listened.nd rfl (Or.inl rfl)) pgs_nil))))
  (pss_cons (ps_par (i := 10) (j := 5) rfl sc_l_listened.nd rfl rfl (by decide) rfl rfl (pa_cons (pe_lst pa_nil) (pa_cons (pe_lst pa_nil) pa_nil)) (by rfl))
  (pss_cons (ps_for PassesOwn.never rfl (pi_enum rfl bi.enumerate (pa_cons (pv 3) pa_nil)) (pg_tup rfl (pgs_cons (pg_name (i := 6) sc_l_listened.nd rfl (Or.inl rfl)) (pgs_cons (pg_name (i := 11) sc_l_listened.nd rfl (Or.inl rfl)) pgs_nil)))
    (pss_cons (ps_asg (pe_call G_l_listened (hr.mono (by first | decide | omega)) rfl D_l_listened.mg D_l_listened.fn.kp D_l_listened.bd .nil pass0 (pa_cons (pv 11) (pa_cons (pv 1) (pa_cons (pe_op op_catA (pv 2) (pe_tup (pa_cons (pv 6) pa_nil))) pa_nil)))) (pg_tup rfl (pgs_cons (pg_name (i := 4) sc_l_listened.nd rfl (Or.inl rfl)) (pgs_cons (pg_name (i := 7) sc_l_listened.nd rfl (Or.inl rfl)) pgs_nil))))
    (pss_cons (ps_set (i := 5) sc_l_listened.nd rfl (Or.inl rfl) (pe_op op_cat (pv 5) (pv 7)))
    (pss_cons (ps_if (L2.PW.pt (pw_or (pt_cmpR op_in_seq (pv 4) (pe_tup (pa_cons pe_str (pa_cons (pv 9) pa_nil))) (by rfl)) (pw_or1 (L2.PW.pt (pw_and (pt_cmpR op_isN (pv 9) pe_non (nomark _)) (pw_and1 (pt_cmpR op_ne (pv 4) pe_str (nomark _))))))))
      (pss_one (ps_ret (pe_tup (pa_cons (pv 4) (pa_cons (pv 5) pa_nil)))))
      pss_nil)
    (pss_one (ps_expr (pe_bm PySem.F.plainAttrs_list PySem.F.slot_list_append PySem.F.type_list_append mt_append (pv 10) (pa_cons (pv 4) pa_nil))))))))
  (pss_one (ps_ret (pe_tup (pa_cons (pe_ifExp (pt_cmpR op_in_seq pe_str (pv 10) (by rfl)) pe_str (pv 8)) (pa_cons (pv 5) pa_nil)))))))))))), ?_⟩
    refine ⟨_, rfl, v, c, ns, rfl, hv, pre.ok, pre.few, fun l xs H1 e1 hl hxs => ?_⟩
    have hv1 := hv.to e1
    have pre1 := pre.to e1
    have post1 : LPost K H1 Q (Gx.run R adr c) := fun t l m H' e => post t l m H' (e1.trans e)
    cases c with
    | leaf lf =>
      obtain ⟨a, kd, rest, rfl, ha, hk⟩ := leaf_kind (show LeafAt K H1 v lf from hv1)
      obtain ⟨k1, k2, k3⟩ := lkind_not hk
      refine ⟨_, rfl, a, _, 0, .str kd, rfl, rfl, ha, atI_of (Int.le_refl 0) rfl, rfl, _, rfl, if_f k2 ⟨_, rfl, a, _, 0, .str kd, rfl, rfl, ha, atI_of (Int.le_refl 0) rfl, rfl, _, rfl, if_f k3 ?_⟩⟩
      refine ⟨_, rfl, a, _, 0, .str kd, rfl, rfl, ha, atI_of (Int.le_refl 0) rfl, sz3, fun t0 n0 => ⟨t0, _, rfl, .inr (SqT.of upd_same), rfl, by decide +kernel, _, rfl, if_t (by rw [k1]; rfl) ?_⟩⟩
      have x0 := Ex.new (o := .tup [.str "all", .str "any", .str "first"]) n0
      refine ⟨_, rfl, _, rfl, .ref a, r, lf, ns, R, rfl, leafAt_toI (ExI.of x0) hv1, pre.ok, (pre1.to x0).row, fun H2 e2 => ?_⟩
      have x2 := x0.trans e2
      refine ⟨_, rfl, _, rfl, _, rfl, .ref a, r, lf, ns, R, rfl, leafAt_toI (ExI.of x2) hv1, pre.ok, (pre1.to x2).row, fun H3 e3 => ⟨sz2, fun t1 n1 => ⟨sz1, fun L nL => ⟨sz2, fun T nT => ?_⟩⟩⟩⟩
      have x3 := x2.trans e3
      have y1 := Ex.new (o := .tup [.ref ad, .str (leafAns R lf)]) n1
      have y2 := Ex.new (o := .lst [.ref t1]) nL
      have y3 := Ex.new (o := .tup [.str (leafAns R lf), .ref L]) nT
      have er : Gx.run R adr (.leaf lf) = (leafAns R lf, [entry adr (leafAns R lf)]) := by simp only [Gx.run]
      rw [er] at post1
      exact post1 T L [.ref t1] _ (x3.trans (y1.trans (y2.trans y3))) (SqT.of upd_same) (y3 _ _ upd_same)
        ⟨⟨t1, ad, adr, _, rfl, rfl, ex_t (y2.trans y3) (SqT.of upd_same), ex_t (x3.trans (y1.trans (y2.trans y3))) pre1.at_⟩, trivial⟩
    | not c =>
      obtain ⟨a, x, rfl, ha, hx⟩ := hv1
      have ok := pre.ok
      have wt := pre.few
      have dpa := pre.deep
      rw [Cnd.ok] at ok
      rw [Cnd.weight] at wt
      rw [Cnd.depth] at dp dpa
      have er : Gx.run R adr (.not c) = (exch (Gx.run R (adr ++ [0]) c).1, (Gx.run R (adr ++ [0]) c).2) := by simp only [Gx.run]
      rw [er] at post1
      refine ⟨_, rfl, a, _, 0, _, rfl, rfl, ha, rfl, rfl, _, rfl, if_t (by decide +kernel) ⟨_, rfl, a, _, 1, x, rfl, rfl, ha, rfl, _, rfl, _, rfl, sz1, fun t6 n6 => cat_adr (Q := _) (ex_t (Ex.new n6) pre1.at_) (SqT.of upd_same) (by omega) fun p6 H6 e6 hp6 => ?_⟩⟩
      have x6 := (Ex.new (o := .tup [.int 0]) n6).trans e6
      refine ⟨x, c, ns, R, p6, adr ++ [0], r, rfl, hx.to x6, by omega, ⟨ok, hp6, pre1.row.toX x6, by omega, by rw [List.length_append, List.length_singleton]; omega⟩, fun t l2 more H7 e7 ht hl2 hen => ?_⟩
      refine ⟨t, _, rfl, ht, rfl, _, _, rfl, _, _, rfl, rfl, ?_⟩
      refine fun e ne => ⟨upd_same, [kk "yes" "no", kk "no" "yes"], rfl, by decide, e, rfl, .inl ⟨_, .inl upd_same⟩, _, rfl, _, rfl, _, DGet.k (k := Sum.inr (Gx.run R (adr ++ [0]) c).1) upd_same, _, rfl, sz2, fun T nT => ?_⟩
      have y1 := (Ex.new (o := .dK []) ne).mut (o := .dK (mergeK [] [kk "yes" "no", kk "no" "yes"])) ne
      rw [dict_exch (run_word c _ ok)]
      have y2 := Ex.new (o := .tup [.str (exch (Gx.run R (adr ++ [0]) c).1), .ref l2]) nT
      exact post1 T l2 more _ (x6.trans (e7.trans (y1.trans y2))) (SqT.of upd_same) ((y1.trans y2) _ _ hl2) (ents_toI (ExI.of (y1.trans y2)) hen)
    | node kd cs =>
      obtain ⟨a, b, xs0, rfl, ha, hb, _⟩ := hv1
      have okc := pre.ok
      have wt := pre.few
      have dpa := pre.deep
      rw [Cnd.ok] at okc
      rw [Cnd.weight] at wt
      rw [Cnd.depth] at dp dpa
      have wl := weightL_len cs
      have hxs2 : CndsAt K H1 xs cs := hxs
      obtain ⟨k1, k2, k3⟩ := kind_three okc.1
      refine ⟨_, rfl, a, _, 0, _, rfl, rfl, ha, rfl, rfl, _, rfl, if_f k2 ⟨_, rfl, a, _, 0, _, rfl, rfl, ha, rfl, rfl, _, rfl, if_f k3 ?_⟩⟩
      refine ⟨_, rfl, a, _, 0, _, rfl, rfl, ha, rfl, sz3, fun t0 n0 => ⟨t0, _, rfl, .inr (SqT.of upd_same), rfl, by decide +kernel, _, rfl, if_f (by rw [k1]; rfl) ?_⟩⟩
      have x0 := Ex.new (o := .tup [.str "all", .str "any", .str "first"]) n0
      generalize upd H1 t0 (.tup [.str "all", .str "any", .str "first"]) = H2 at x0 ⊢
      refine ⟨fun σ H' => ∃ (last : Str) (ends : V), σ = [some (.ref a), some (.ref r), some (.ref ad), some (.ref l), none, none, none, none, some (.str last), some ends, none, none] ∧ Ex H2 H' ∧
        ((kd = "all" ∧ last = "yes" ∧ ends = .str "no") ∨ (kd = "any" ∧ last = "no" ∧ ends = .str "yes") ∨ (kd = "first" ∧ last = "unknown" ∧ ends = .non)), ?_, fun σ H3 m => ?_⟩
      · refine fun e ne => ⟨sz2, fun t1 n1 => ⟨sz2, fun t2 n2 => ⟨sz2, fun t3 n3 => ?_⟩⟩⟩
        have y0 := Ex.new (o := .dK []) ne
        have y1 := Ex.new (o := .tup [.str "yes", .str "no"]) n1
        have y2 := Ex.new (o := .tup [.str "no", .str "yes"]) n2
        have y3 := Ex.new (o := .tup [.str "unknown", .non]) n3
        have y13 := y1.trans (y2.trans y3)
        refine ⟨y13 _ _ upd_same, [(Sum.inr "all", .ref t1), (Sum.inr "any", .ref t2), (Sum.inr "first", .ref t3)], rfl, by show 3 ≤ 15; decide, ?_⟩
        have ye := (y0.trans y13).mut (o := .dK (mergeK [] [(Sum.inr "all", .ref t1), (Sum.inr "any", .ref t2), (Sum.inr "first", .ref t3)])) ne
        have n1e : t1 ≠ e := fun z => by subst z; rw [upd_same] at n1; cases n1
        have n2e : t2 ≠ e := fun z => by subst z; rw [y1 _ _ upd_same] at n2; cases n2
        have n3e : t3 ≠ e := fun z => by subst z; rw [(y1.trans y2) _ _ upd_same] at n3; cases n3
        have g1 := (y2.trans y3) _ _ (upd_same (H := upd H2 e (.dK [])) (a := t1) (o := .tup [.str "yes", .str "no"]))
        have g2 := y3 _ _ (upd_same (H := upd (upd H2 e (.dK [])) t1 (.tup [.str "yes", .str "no"])) (a := t2) (o := .tup [.str "no", .str "yes"]))
        have g3 : upd (upd (upd (upd H2 e (.dK [])) t1 (.tup [.str "yes", .str "no"])) t2 (.tup [.str "no", .str "yes"])) t3 (.tup [.str "unknown", .non]) t3 = some (.tup [.str "unknown", .non]) := upd_same
        generalize upd (upd (upd (upd H2 e (.dK [])) t1 (.tup [.str "yes", .str "no"])) t2 (.tup [.str "no", .str "yes"])) t3 (.tup [.str "unknown", .non]) = H4 at ye g1 g2 g3 ⊢
        have dg := fun q : Key => DGet.k (k := q) (upd_same (H := H4) (a := e) (o := .dK (mergeK [] [(Sum.inr "all", .ref t1), (Sum.inr "any", .ref t2), (Sum.inr "first", .ref t3)])))
        have hk : kd = "all" ∨ kd = "any" ∨ kd = "first" := by
          have := okc.1
          simpa [kinds] using this
        rcases hk with rfl | rfl | rfl
        · exact ⟨_, rfl, a, _, 0, _, rfl, rfl, ex_t (x0.trans ye) ha, rfl, e, .ref t1, rfl, dg (Sum.inr "all"), t1, _, rfl, SqT.of (by rw [upd_ne n1e]; exact g1), rfl, _, _, rfl, _, _, rfl, rfl, "yes", .str "no", rfl, ye, .inl ⟨rfl, rfl, rfl⟩⟩
        · exact ⟨_, rfl, a, _, 0, _, rfl, rfl, ex_t (x0.trans ye) ha, rfl, e, .ref t2, rfl, dg (Sum.inr "any"), t2, _, rfl, SqT.of (by rw [upd_ne n2e]; exact g2), rfl, _, _, rfl, _, _, rfl, rfl, "no", .str "yes", rfl, ye, .inr (.inl ⟨rfl, rfl, rfl⟩)⟩
        · exact ⟨_, rfl, a, _, 0, _, rfl, rfl, ex_t (x0.trans ye) ha, rfl, e, .ref t3, rfl, dg (Sum.inr "first"), t3, _, rfl, SqT.of (by rw [upd_ne n3e]; exact g3), rfl, _, _, rfl, _, _, rfl, rfl, "unknown", .non, rfl, ye, .inr (.inr ⟨rfl, rfl, rfl⟩)⟩
      · obtain ⟨last, ends, rfl, e3, hde⟩ := m
        have x03 := x0.trans e3
        refine ⟨by decide, fun an nan => ⟨by decide, fun hd0 nhd => ⟨_, _, rfl, _, rfl, l, xs, rfl, SqL.of ((x03.trans ((Ex.new nan).trans (Ex.new nhd))) _ _ hl), ?_⟩⟩⟩
        have two : (kd = "first" ∧ last = "unknown" ∧ ends = .non) ∨ ∃ dec, ends = .str dec ∧ Gx.run R adr (.node kd cs) = allOf dec last (runL R adr 0 1 cs) := by
          rcases hde with ⟨rfl, rfl, rfl⟩ | ⟨rfl, rfl, rfl⟩ | h
          · exact .inr ⟨"no", rfl, by simp only [Gx.run]; unfold nodeOf; rw [if_neg (by decide +kernel), if_pos rfl]⟩
          · exact .inr ⟨"yes", rfl, by simp only [Gx.run]; unfold nodeOf; rw [if_neg (by decide +kernel), if_neg (by decide +kernel)]⟩
          · exact .inl h
        rcases two with ⟨rfl, rfl, rfl⟩ | ⟨dec, rfl, er⟩
        · have er : Gx.run R adr (.node "first" cs) = firstOf (runL R adr 0 1 cs) := by simp only [Gx.run]; unfold nodeOf; rw [if_pos rfl]
          rw [er] at post1
          have last : Str := "unknown"
          refine for_enumL (xs := xs) (fun i σ H' => ∃ (hd : Addr) (more : List V) (acc : List PyData) (ws : List Str) (x4 x6 x7 x11 : Option V),
            σ = [some (.ref a), some (.ref r), some (.ref ad), some (.ref l), x4, some (.ref hd), x6, x7, some (.str "unknown"), some (.non), some (.ref an), x11] ∧ Ex H3 H' ∧ H' hd = some (.lst more) ∧ hd ≠ an ∧ Ents K H' more acc ∧
            H' an = some (.lst (ws.map V.str)) ∧ ws.length = i ∧ firstOf (runL R adr 0 1 cs) = ((firstOf ((runL R adr 0 1 cs).drop i)).1, acc ++ (firstOf ((runL R adr 0 1 cs).drop i)).2) ∧ more.length ≤ Cnd.weightL (cs.take i)) ?_
            (fun i σ H' _ ⟨_, _, _, _, _, _, _, _, _, e, _⟩ => SqL.of ((x03.trans e) _ _ hl)) ?_ ?_
          · exact ⟨hd0, [], [], [], none, none, none, none, rfl, (Ex.new nan).trans (Ex.new nhd), upd_same, (fun z => by subst z; rw [upd_same] at nhd; cases nhd), trivial, (Ex.new nhd) _ _ upd_same, rfl, by simp, Nat.zero_le _⟩
          · rintro i z T σ H5 hi ⟨hd, more, acc, ws, x4, x6, x7, x11, rfl, e5, hhd, hne, hen, han, wsl, heq, hml⟩ nT
            obtain ⟨c, hc, hca⟩ := cnds_get hxs2 hi
            have il := (List.getElem?_eq_some_iff.mp hc).1
            have cm := List.mem_of_getElem? hc
            obtain ⟨ws1, ws2⟩ := weightL_step hc
            have dc := Cnd.depthL_le.mp (Nat.le_refl (Cnd.depthL cs)) c cm
            have hrs := runL_get R cs adr 0 1 i c hc
            rw [show (0 : Int) + (i : Int) * 1 = (i : Int) by omega] at hrs
            have y1 := Ex.new (o := .tup [.int (i : Nat), z]) nT
            have tq : SqT K (upd H5 T (.tup [.int (i : Nat), z])) T [.int (i : Nat), z] := SqT.of upd_same
            generalize upd H5 T (.tup [.int (i : Nat), z]) = H6 at y1 tq ⊢
            have x06 := (x03.trans e5).trans y1
            refine ⟨T, _, rfl, tq, rfl, _, _, rfl, _, _, rfl, rfl, ?_⟩
            refine ⟨_, rfl, _, rfl, _, rfl, _, rfl, sz1, fun t nt => cat_adr (Q := _) (ex_t (Ex.new nt) (ex_t x06 pre1.at_)) (SqT.of upd_same) (by omega) fun p H7 e7 hp => ?_⟩
            have y2 := (Ex.new (o := .tup [.int (i : Int)]) nt).trans e7
            have x07 := x06.trans y2
            refine ⟨z, c, ns, R, p, adr ++ [(i : Int)], r, rfl, hca.to x07, by omega, ⟨Cnd.okL_iff.mp okc.2 c cm, hp, pre1.row.toX x07, by omega, by rw [List.length_append, List.length_singleton]; omega⟩, fun t' l2 more2 H8 e8 ht hl2 hen2 => ?_⟩
            refine ⟨t', _, rfl, ht, rfl, _, _, rfl, _, _, rfl, rfl, ?_⟩
            have ml2 : more2.length ≤ c.weight := by rw [ents_len hen2]; exact run_len R c _
            have y58 := y1.trans (y2.trans e8)
            refine ⟨_, rfl, _, rfl, hd, l2, more, more2, rfl, rfl, y58 _ _ hhd, hl2, Nat.le_trans (show more.length + more2.length ≤ 16000000 by omega) (by decide), fun hd' nhd' => ?_⟩
            have y3 := Ex.new (o := .lst (more ++ more2)) nhd'
            have hhd' : upd H8 hd' (.lst (more ++ more2)) hd' = some (.lst (more ++ more2)) := upd_same
            have hne' : hd' ≠ an := fun z => by subst z; rw [y58 _ _ han] at nhd'; cases nhd'
            have y59 := y58.trans y3
            have hen9 : Ents K (upd H8 hd' (.lst (more ++ more2))) (more ++ more2) (acc ++ (Gx.run R (adr ++ [(i : Int)]) c).2) := ents_app (ents_toI (ExI.of y59) hen) (ents_toI (ExI.of y3) hen2)
            have han9 := y59 _ _ han
            have x09 := (x03.trans e5).trans y59
            have e59 := e5.trans y59
            generalize upd H8 hd' (.lst (more ++ more2)) = H9 at hhd' hen9 han9 x09 e59 ⊢
            rw [firstOf_step hrs] at heq
            generalize hres : Gx.run R (adr ++ [(i : Int)]) c = res at heq hen9 ⊢
            have out : ∀ H', Ex H9 H' → firstOf (runL R adr 0 1 cs) = (res.1, acc ++ res.2) → ∀ U, H' U = none → Q (.ref U) (upd H' U (.tup [.str res.1, .ref hd'])) := fun H' e' he U nU => by
              rw [he] at post1
              exact post1 U hd' (more ++ more2) _ ((x09.trans e').trans (Ex.new nU)) (SqT.of upd_same) ((e'.trans (Ex.new nU)) _ _ hhd') (ents_toI (ExI.of (e'.trans (Ex.new nU))) hen9)
            refine ⟨_, rfl, _, rfl, sz2, fun t5 n5 => ⟨t5, _, rfl, .inr (SqT.of upd_same), rfl, rfl, _, rfl, ?_⟩⟩
            have y6 := Ex.new (o := .tup [.str "error", .non]) n5
            by_cases hu : res.1 = "unknown"
            · refine if_f (by rw [Bool.eq_false_iff, hu]; decide +kernel) ⟨_, rfl, rfl, _, rfl, if_t rfl ⟨_, rfl, rfl, _, rfl, ?_⟩⟩
              rw [if_pos hu] at heq
              refine if_f (by rw [hu]; decide +kernel) ?_
              refine ⟨_, rfl, .inl ⟨rfl, _, SqL.of (y6 _ _ han9)⟩, _, rfl, an, ws.map V.str, .str res.1, rfl, rfl, y6 _ _ han9, Nat.lt_of_le_of_lt (show (ws.map V.str).length ≤ 16000000 by rw [List.length_map]; omega) (by decide), hd', more ++ more2, acc ++ res.2, ws ++ [res.1], _, _, _, _, rfl, (e59.trans y6).mut nan, by rw [upd_ne hne']; exact y6 _ _ hhd', hne', ents_toI (ExI.put (y6 _ _ han9) rfl) (ents_toI (ExI.of y6) hen9), by rw [upd_same, List.map_append]; rfl, by rw [List.length_append, wsl]; rfl, ?_, by rw [ws1, List.length_append]; omega⟩
              rw [heq, List.append_assoc]
            · rw [if_neg hu] at heq
              by_cases he : res.1 = "error"
              · exact if_t ((inVn _ _).mpr he) ⟨_, rfl, _, rfl, sz2, fun U nU => out _ y6 heq U nU⟩
              · refine if_f (by rw [Bool.eq_false_iff]; exact fun z => he ((inVn _ _).mp z)) ⟨_, rfl, rfl, _, rfl, if_t rfl ⟨_, rfl, rfl, _, rfl, if_t (by rw [decide_eq_false fun z => hu (V.str.inj z)]; rfl) ?_⟩⟩
                exact ⟨_, rfl, _, rfl, sz2, fun U nU => out _ y6 heq U nU⟩
          · rintro σ H5 ⟨hd, more, acc, ws, x4, x6, x7, x11, rfl, e5, hhd, hne, hen, han, wsl, heq, hml⟩
            have dl : (runL R adr 0 1 cs).drop xs.length = [] := by rw [List.drop_eq_nil_iff, runL_len, cnds_len hxs2]; exact Nat.le_refl _
            rw [dl] at heq
            have e0 : firstOf [] = (("unknown" : Str), []) := rfl
            rw [e0, List.append_nil] at heq
            rw [heq] at post1
            have fin : ∀ U, H5 U = none → Q (.ref U) (upd H5 U (.tup [.str "unknown", .ref hd])) := fun U nU =>
              post1 U hd more _ ((x03.trans e5).trans (Ex.new nU)) (SqT.of upd_same) ((Ex.new nU) _ _ hhd) (ents_toI (ExI.of (Ex.new nU)) hen)
            refine ⟨_, rfl, an, ws.map V.str, rfl, .inl (SqL.of han), rfl, flats ws, _, rfl, ?_⟩
            by_cases hw : ("unknown" : Str) ∈ ws
            · exact if_t ((inVs _ _).mpr hw) ⟨_, rfl, sz2, fin⟩
            · exact if_f (by rw [Bool.eq_false_iff]; exact fun z => hw ((inVs _ _).mp z)) ⟨_, rfl, _, rfl, sz2, fin⟩
        · rw [er] at post1
          refine for_enumL (xs := xs) (fun i σ H' => ∃ (hd : Addr) (more : List V) (acc : List PyData) (ws : List Str) (x4 x6 x7 x11 : Option V),
            σ = [some (.ref a), some (.ref r), some (.ref ad), some (.ref l), x4, some (.ref hd), x6, x7, some (.str last), some (.str dec), some (.ref an), x11] ∧ Ex H3 H' ∧ H' hd = some (.lst more) ∧ hd ≠ an ∧ Ents K H' more acc ∧
            H' an = some (.lst (ws.map V.str)) ∧ ws.length = i ∧ allOf dec last (runL R adr 0 1 cs) = ((allOf dec (if ("unknown" : Str) ∈ ws then "unknown" else last) ((runL R adr 0 1 cs).drop i)).1, acc ++ (allOf dec (if ("unknown" : Str) ∈ ws then "unknown" else last) ((runL R adr 0 1 cs).drop i)).2) ∧ more.length ≤ Cnd.weightL (cs.take i)) ?_
            (fun i σ H' _ ⟨_, _, _, _, _, _, _, _, _, e, _⟩ => SqL.of ((x03.trans e) _ _ hl)) ?_ ?_
          · exact ⟨hd0, [], [], [], none, none, none, none, rfl, (Ex.new nan).trans (Ex.new nhd), upd_same, (fun z => by subst z; rw [upd_same] at nhd; cases nhd), trivial, (Ex.new nhd) _ _ upd_same, rfl, by simp, Nat.zero_le _⟩
          · rintro i z T σ H5 hi ⟨hd, more, acc, ws, x4, x6, x7, x11, rfl, e5, hhd, hne, hen, han, wsl, heq, hml⟩ nT
            obtain ⟨c, hc, hca⟩ := cnds_get hxs2 hi
            have il := (List.getElem?_eq_some_iff.mp hc).1
            have cm := List.mem_of_getElem? hc
            obtain ⟨ws1, ws2⟩ := weightL_step hc
            have dc := Cnd.depthL_le.mp (Nat.le_refl (Cnd.depthL cs)) c cm
            have hrs := runL_get R cs adr 0 1 i c hc
            rw [show (0 : Int) + (i : Int) * 1 = (i : Int) by omega] at hrs
            have y1 := Ex.new (o := .tup [.int (i : Nat), z]) nT
            have tq : SqT K (upd H5 T (.tup [.int (i : Nat), z])) T [.int (i : Nat), z] := SqT.of upd_same
            generalize upd H5 T (.tup [.int (i : Nat), z]) = H6 at y1 tq ⊢
            have x06 := (x03.trans e5).trans y1
            refine ⟨T, _, rfl, tq, rfl, _, _, rfl, _, _, rfl, rfl, ?_⟩
            refine ⟨_, rfl, _, rfl, _, rfl, _, rfl, sz1, fun t nt => cat_adr (Q := _) (ex_t (Ex.new nt) (ex_t x06 pre1.at_)) (SqT.of upd_same) (by omega) fun p H7 e7 hp => ?_⟩
            have y2 := (Ex.new (o := .tup [.int (i : Int)]) nt).trans e7
            have x07 := x06.trans y2
            refine ⟨z, c, ns, R, p, adr ++ [(i : Int)], r, rfl, hca.to x07, by omega, ⟨Cnd.okL_iff.mp okc.2 c cm, hp, pre1.row.toX x07, by omega, by rw [List.length_append, List.length_singleton]; omega⟩, fun t' l2 more2 H8 e8 ht hl2 hen2 => ?_⟩
            refine ⟨t', _, rfl, ht, rfl, _, _, rfl, _, _, rfl, rfl, ?_⟩
            have ml2 : more2.length ≤ c.weight := by rw [ents_len hen2]; exact run_len R c _
            have y58 := y1.trans (y2.trans e8)
            refine ⟨_, rfl, _, rfl, hd, l2, more, more2, rfl, rfl, y58 _ _ hhd, hl2, Nat.le_trans (show more.length + more2.length ≤ 16000000 by omega) (by decide), fun hd' nhd' => ?_⟩
            have y3 := Ex.new (o := .lst (more ++ more2)) nhd'
            have hhd' : upd H8 hd' (.lst (more ++ more2)) hd' = some (.lst (more ++ more2)) := upd_same
            have hne' : hd' ≠ an := fun z => by subst z; rw [y58 _ _ han] at nhd'; cases nhd'
            have y59 := y58.trans y3
            have hen9 : Ents K (upd H8 hd' (.lst (more ++ more2))) (more ++ more2) (acc ++ (Gx.run R (adr ++ [(i : Int)]) c).2) := ents_app (ents_toI (ExI.of y59) hen) (ents_toI (ExI.of y3) hen2)
            have han9 := y59 _ _ han
            have x09 := (x03.trans e5).trans y59
            have e59 := e5.trans y59
            generalize upd H8 hd' (.lst (more ++ more2)) = H9 at hhd' hen9 han9 x09 e59 ⊢
            rw [allOf_step hrs] at heq
            generalize hres : Gx.run R (adr ++ [(i : Int)]) c = res at heq hen9 ⊢
            have out : ∀ H', Ex H9 H' → allOf dec last (runL R adr 0 1 cs) = (res.1, acc ++ res.2) → ∀ U, H' U = none → Q (.ref U) (upd H' U (.tup [.str res.1, .ref hd'])) := fun H' e' he U nU => by
              rw [he] at post1
              exact post1 U hd' (more ++ more2) _ ((x09.trans e').trans (Ex.new nU)) (SqT.of upd_same) ((e'.trans (Ex.new nU)) _ _ hhd') (ents_toI (ExI.of (e'.trans (Ex.new nU))) hen9)
            refine ⟨_, rfl, _, rfl, sz2, fun t5 n5 => ⟨t5, _, rfl, .inr (SqT.of upd_same), rfl, rfl, _, rfl, ?_⟩⟩
            have y6 := Ex.new (o := .tup [.str "error", .str dec]) n5
            by_cases hin : res.1 = "error" ∨ res.1 = dec
            · refine if_t ((inV2 _ _ _).mpr hin) ⟨_, rfl, _, rfl, sz2, fun U nU => ?_⟩
              rw [if_pos hin] at heq
              exact out _ y6 heq U nU
            · refine if_f (by rw [Bool.eq_false_iff]; exact fun z => hin ((inV2 _ _ _).mp z)) ⟨_, rfl, rfl, _, rfl, if_f (decide_eq_false nofun) ?_⟩
              rw [if_neg hin] at heq
              refine ⟨_, rfl, .inl ⟨rfl, _, SqL.of (y6 _ _ han9)⟩, _, rfl, an, ws.map V.str, .str res.1, rfl, rfl, y6 _ _ han9, Nat.lt_of_le_of_lt (show (ws.map V.str).length ≤ 16000000 by rw [List.length_map]; omega) (by decide), hd', more ++ more2, acc ++ res.2, ws ++ [res.1], _, _, _, _, rfl, (e59.trans y6).mut nan, by rw [upd_ne hne']; exact y6 _ _ hhd', hne', ents_toI (ExI.put (y6 _ _ han9) rfl) (ents_toI (ExI.of y6) hen9), by rw [upd_same, List.map_append]; rfl, by rw [List.length_append, wsl]; rfl, ?_, by rw [ws1, List.length_append]; omega⟩
              have ef : (if res.1 = "unknown" then res.1 else (if ("unknown" : Str) ∈ ws then ("unknown" : Str) else last)) = (if ("unknown" : Str) ∈ ws ++ [res.1] then ("unknown" : Str) else last) := by
                by_cases hu : res.1 = "unknown"
                · rw [if_pos hu, hu, if_pos (by simp)]
                · rw [if_neg hu]
                  by_cases hw : ("unknown" : Str) ∈ ws
                  · rw [if_pos hw, if_pos (by simp [hw])]
                  · rw [if_neg hw, if_neg (by simp only [List.mem_append, List.mem_singleton]; exact fun z => z.elim hw fun q => hu q.symm)]
              rw [ef] at heq
              rw [heq, List.append_assoc]
          · rintro σ H5 ⟨hd, more, acc, ws, x4, x6, x7, x11, rfl, e5, hhd, hne, hen, han, wsl, heq, hml⟩
            have dl : (runL R adr 0 1 cs).drop xs.length = [] := by rw [List.drop_eq_nil_iff, runL_len, cnds_len hxs2]; exact Nat.le_refl _
            rw [dl] at heq
            have e0 : allOf dec (if ("unknown" : Str) ∈ ws then ("unknown" : Str) else last) [] = ((if ("unknown" : Str) ∈ ws then ("unknown" : Str) else last), []) := rfl
            rw [e0, List.append_nil] at heq
            rw [heq] at post1
            refine ⟨_, rfl, an, ws.map V.str, rfl, .inl (SqL.of han), rfl, flats ws, _, rfl, ?_⟩
            by_cases hw : ("unknown" : Str) ∈ ws
            · rw [if_pos hw] at post1
              exact if_t ((inVs _ _).mpr hw) ⟨_, rfl, sz2, fun U nU => post1 U hd more _ ((x03.trans e5).trans (Ex.new nU)) (SqT.of upd_same) ((Ex.new nU) _ _ hhd) (ents_toI (ExI.of (Ex.new nU)) hen)⟩
            · rw [if_neg hw] at post1
              exact if_f (by rw [Bool.eq_false_iff]; exact fun z => hw ((inVs _ _).mp z)) ⟨_, rfl, _, rfl, sz2, fun U nU => post1 U hd more _ ((x03.trans e5).trans (Ex.new nU)) (SqT.of upd_same) ((Ex.new nU) _ _ hhd) (ents_toI (ExI.of (Ex.new nU)) hen)⟩
    | case ws us el =>
      obtain ⟨a, b, qs, xs0, ys0, y, rfl, ha, _⟩ := hv1
      have okc := pre.ok
      have wt := pre.few
      have dpa := pre.deep
      rw [Cnd.ok] at okc
      rw [Cnd.weight] at wt
      rw [Cnd.depth] at dp dpa
      obtain ⟨ok1, ok2, ok3, ok4⟩ := okc
      have wl := weightL_len ws
      have hxs2 : CndsAt K H1 xs (ilv ws us ++ [el]) := hxs
      have xl := cnds_len hxs2
      rw [List.length_append, ilv_len ok1, List.length_singleton] at xl
      have item : ∀ (i : Nat) (c : Cnd), (ilv ws us ++ [el])[i]? = some c → ∃ z, xs[i]? = some z ∧ CndAt K H1 z c := fun i c h => by
        have hi := (List.getElem?_eq_some_iff.mp h).1
        have : i < xs.length := by rw [cnds_len hxs2]; exact hi
        obtain ⟨d, h1, h2⟩ := cnds_get hxs2 (List.getElem?_eq_getElem this)
        rw [h] at h1
        cases h1
        exact ⟨_, List.getElem?_eq_getElem this, h2⟩
      have er : Gx.run R adr (.case ws us el) = caseOf (runL R adr 0 2 ws) (runL R adr 1 2 us) (Gx.run R (adr ++ [2 * (ws.length : Int)]) el) := by simp only [Gx.run]
      rw [er] at post1
      generalize hE : Gx.run R (adr ++ [2 * (ws.length : Int)]) el = eres at post1
      refine ⟨_, rfl, a, _, 0, _, rfl, rfl, ha, rfl, rfl, _, rfl, if_f (by decide +kernel) ⟨_, rfl, a, _, 0, _, rfl, rfl, ha, rfl, rfl, _, rfl, if_t (by decide +kernel) ⟨by decide, fun hd0 nhd => ?_⟩⟩⟩
      have x0 := Ex.new (o := .lst []) nhd
      have en : ((xs.length : Int) / 2).toNat = ws.length := by omega
      refine ⟨_, rfl, l, xs, rfl, .inl (SqL.of (x0 _ _ hl)), _, 2, rfl, rfl, ⟨by decide, by decide⟩, (xs.length : Int) / 2, rfl, by omega, by omega, for_range (n := ((xs.length : Int) / 2).toNat) (fun i σ H' => ∃ (hd : Addr) (more : List V) (acc : List PyData) (x4 x6 x7 : Option V),
        σ = [some (.ref a), some (.ref r), some (.ref ad), some (.ref l), x4, some (.ref hd), x6, x7, none, none, none, none] ∧ Ex H1 H' ∧ H' hd = some (.lst more) ∧ Ents K H' more acc ∧
        caseOf (runL R adr 0 2 ws) (runL R adr 1 2 us) eres = ((caseOf ((runL R adr 0 2 ws).drop i) ((runL R adr 1 2 us).drop i) eres).1, acc ++ (caseOf ((runL R adr 0 2 ws).drop i) ((runL R adr 1 2 us).drop i) eres).2) ∧
        more.length ≤ Cnd.weightL (ws.take i)) ?_ ?_ ?_⟩
      · exact ⟨hd0, [], [], none, none, none, rfl, x0, upd_same, trivial, by simp, Nat.zero_le _⟩
      · rintro i σ H5 hi ⟨hd, more, acc, x4, x6, x7, rfl, e5, hhd, hen, heq, hml⟩
        rw [en] at hi
        obtain ⟨c, hc⟩ : ∃ c, ws[i]? = some c := ⟨ws[i], List.getElem?_eq_getElem hi⟩
        obtain ⟨d, hd'⟩ : ∃ d, us[i]? = some d := ⟨us[i]'(by omega), List.getElem?_eq_getElem (by omega)⟩
        obtain ⟨g1, g2⟩ := ilv_get hc hd'
        obtain ⟨z1, hz1, hz1a⟩ := item (2 * i) c (by rw [List.getElem?_append_left (by rw [ilv_len ok1]; omega)]; exact g1)
        obtain ⟨z2, hz2, hz2a⟩ := item (2 * i + 1) d (by rw [List.getElem?_append_left (by rw [ilv_len ok1]; omega)]; exact g2)
        have cm := List.mem_of_getElem? hc
        have dm := List.mem_of_getElem? hd'
        obtain ⟨ws1, ws2⟩ := weightL_step hc
        obtain ⟨us1, us2⟩ := weightL_step hd'
        have dc := Cnd.depthL_le.mp (Nat.le_refl (Cnd.depthL ws)) c cm
        have dd := Cnd.depthL_le.mp (Nat.le_refl (Cnd.depthL us)) d dm
        have hrs := runL_get R ws adr 0 2 i c hc
        have hus := runL_get R us adr 1 2 i d hd'
        rw [show (0 : Int) + (i : Int) * 2 = 2 * (0 + (i : Int)) by omega] at hrs
        rw [show (1 : Int) + (i : Int) * 2 = 2 * (0 + (i : Int)) + 1 by omega] at hus
        have at1 : atI xs (2 * (0 + (i : Int))) = some z1 := by
          rw [show 2 * (0 + (i : Int)) = ((2 * i : Nat) : Int) by omega]
          exact atI_of (by omega) (by rw [Int.toNat_natCast]; exact hz1)
        have at2 : atI xs (2 * (0 + (i : Int)) + 1) = some z2 := by
          rw [show 2 * (0 + (i : Int)) + 1 = ((2 * i + 1 : Nat) : Int) by omega]
          exact atI_of (by omega) (by rw [Int.toNat_natCast]; exact hz2)
        refine ⟨_, rfl, _, rfl, 2, _, rfl, rfl, .inl ⟨by decide, by decide⟩, l, xs, _, z1, rfl, rfl, SqL.of (e5 _ _ hl), at1, _, rfl, _, rfl, _, rfl, 2, _, rfl, rfl, .inl ⟨by decide, by decide⟩, sz1, fun t nt =>
          cat_adr (Q := _) (ex_t (Ex.new nt) (ex_t e5 pre1.at_)) (SqT.of upd_same) (by omega) fun p H7 e7 hp => ?_⟩
        have y2 := (Ex.new (o := .tup [.int (2 * (0 + (i : Int)))]) nt).trans e7
        have x07 := e5.trans y2
        refine ⟨z1, c, ns, R, p, adr ++ [2 * (0 + (i : Int))], r, rfl, hz1a.to x07, by omega, ⟨Cnd.okL_iff.mp ok2 c cm, hp, pre1.row.toX x07, by omega, by rw [List.length_append, List.length_singleton]; omega⟩, fun t' l2 more2 H8 e8 ht hl2 hen2 => ?_⟩
        refine ⟨t', _, rfl, ht, rfl, _, _, rfl, _, _, rfl, rfl, ?_⟩
        have ml2 : more2.length ≤ c.weight := by rw [ents_len hen2]; exact run_len R c _
        have y58 := y2.trans e8
        refine ⟨_, rfl, _, rfl, hd, l2, more, more2, rfl, rfl, y58 _ _ hhd, hl2, Nat.le_trans (show more.length + more2.length ≤ 16000000 by omega) (by decide), fun hd2 nhd2 => ?_⟩
        have y3 := Ex.new (o := .lst (more ++ more2)) nhd2
        have hhd2 : upd H8 hd2 (.lst (more ++ more2)) hd2 = some (.lst (more ++ more2)) := upd_same
        have hen9 : Ents K (upd H8 hd2 (.lst (more ++ more2))) (more ++ more2) (acc ++ (Gx.run R (adr ++ [2 * (0 + (i : Int))]) c).2) := ents_app (ents_toI (ExI.of (y58.trans y3)) hen) (ents_toI (ExI.of y3) hen2)
        have e59 := e5.trans (y58.trans y3)
        generalize upd H8 hd2 (.lst (more ++ more2)) = H9 at hhd2 hen9 e59 ⊢
        rw [caseOf_step hrs hus] at heq
        generalize hres : Gx.run R (adr ++ [2 * (0 + (i : Int))]) c = res at heq hen9 ⊢
        refine ⟨_, rfl, rfl, _, rfl, ?_⟩
        by_cases he : res.1 = "error"
        · rw [if_pos he] at heq
          rw [heq] at post1
          exact if_t (by rw [he]; decide +kernel) ⟨_, rfl, _, rfl, sz2, fun U nU => post1 U hd2 (more ++ more2) _ (e59.trans (Ex.new nU)) (SqT.of upd_same) ((Ex.new nU) _ _ hhd2) (ents_toI (ExI.of (Ex.new nU)) hen9)⟩
        · refine if_f (decide_eq_false fun z => he (V.str.inj z)) ⟨_, rfl, rfl, _, rfl, ?_⟩
          rw [if_neg he] at heq
          by_cases hyes : res.1 = "yes"
          · refine if_t (by rw [hyes]; decide +kernel) ?_
            rw [if_pos hyes] at heq
            rw [heq] at post1
            refine ⟨_, rfl, _, rfl, 2, _, rfl, rfl, .inl ⟨by decide, by decide⟩, _, 1, rfl, rfl, l, xs, _, z2, rfl, rfl, SqL.of (e59 _ _ hl), at2, _, rfl, _, rfl, _, rfl, 2, _, rfl, rfl, .inl ⟨by decide, by decide⟩, _, 1, rfl, rfl, sz1, fun t6 n6 =>
              cat_adr (Q := _) (ex_t (Ex.new n6) (ex_t e59 pre1.at_)) (SqT.of upd_same) (by omega) fun p6 H10 e10 hp6 => ?_⟩
            have y6 := (Ex.new (o := .tup [.int (2 * (0 + (i : Int)) + 1)]) n6).trans e10
            have x10 := e59.trans y6
            refine ⟨z2, d, ns, R, p6, adr ++ [2 * (0 + (i : Int)) + 1], r, rfl, hz2a.to x10, by omega, ⟨Cnd.okL_iff.mp ok3 d dm, hp6, pre1.row.toX x10, by omega, by rw [List.length_append, List.length_singleton]; omega⟩, fun t7 l7 more7 H11 e11 ht7 hl7 hen7 => ?_⟩
            have ml7 : more7.length ≤ d.weight := by rw [ents_len hen7]; exact run_len R d _
            refine ⟨t7, _, rfl, ht7, rfl, _, _, rfl, _, _, rfl, rfl, ?_⟩
            have y8 := y6.trans e11
            refine ⟨_, rfl, _, rfl, _, rfl, hd2, l7, more ++ more2, more7, rfl, rfl, y8 _ _ hhd2, hl7, Nat.le_trans (show (more ++ more2).length + more7.length ≤ 16000000 by rw [List.length_append]; omega) (by decide), fun h8 nh8 => ⟨sz2, fun U nU => ?_⟩⟩
            have y9 := Ex.new (o := .lst ((more ++ more2) ++ more7)) nh8
            have y10 := y9.trans (Ex.new (o := .tup [.str (Gx.run R (adr ++ [2 * (0 + (i : Int)) + 1]) d).1, .ref h8]) nU)
            refine post1 U h8 ((more ++ more2) ++ more7) _ (e59.trans (y8.trans y10)) (SqT.of upd_same) ((Ex.new nU) _ _ upd_same) ?_
            rw [← List.append_assoc]
            exact ents_app (ents_toI (ExI.of (y8.trans y10)) hen9) (ents_toI (ExI.of y10) hen7)
          · rw [if_neg hyes] at heq
            refine if_f (decide_eq_false fun z => hyes (V.str.inj z)) ⟨hd2, more ++ more2, acc ++ res.2, _, _, _, rfl, e59, hhd2, hen9, ?_, by rw [ws1, List.length_append]; omega⟩
            rw [heq, List.append_assoc]
      · rintro σ H5 ⟨hd, more, acc, x4, x6, x7, rfl, e5, hhd, hen, heq, hml⟩
        rw [en] at heq hml
        have dl : (runL R adr 0 2 ws).drop ws.length = [] := by rw [List.drop_eq_nil_iff, runL_len]; exact Nat.le_refl _
        have e0 : ∀ us' : List Res, caseOf [] us' eres = eres := fun us' => by unfold caseOf; rfl
        rw [dl, e0] at heq
        rw [heq] at post1
        have wtk := weightL_take ws ws.length
        obtain ⟨z, hz, hza⟩ := item (2 * ws.length) el (by rw [List.getElem?_append_right (by rw [ilv_len ok1]; exact Nat.le_refl _), ilv_len ok1]; simp)
        refine ⟨_, rfl, 1, rfl, l, xs, -1, z, rfl, rfl, SqL.of (e5 _ _ hl), by rw [atI_last (n := 2 * ws.length) (by omega)]; exact hz, _, rfl, _, rfl, _, rfl, l, xs, rfl, .inl (SqL.of (e5 _ _ hl)), _, 1, rfl, rfl, sz1, fun t nt => ?_⟩
        refine cat_adr (Q := _) (i := (xs.length : Int) - 1) (ex_t (Ex.new nt) (ex_t e5 pre1.at_)) (SqT.of upd_same) (by omega) fun p H7 e7 hp => ?_
        have ea : (xs.length : Int) - 1 = 2 * (ws.length : Int) := by omega
        have y2 := (Ex.new (o := .tup [.int ((xs.length : Int) - 1)]) nt).trans e7
        rw [ea] at hp
        have x07 := e5.trans y2
        refine ⟨z, el, ns, R, p, adr ++ [2 * (ws.length : Int)], r, rfl, hza.to x07, by omega, ⟨ok4, hp, pre1.row.toX x07, by omega, by rw [List.length_append, List.length_singleton]; omega⟩, fun t' l2 more2 H8 e8 ht hl2 hen2 => ?_⟩
        rw [hE] at ht hen2
        have ml2 : more2.length ≤ el.weight := by rw [ents_len hen2, ← hE]; exact run_len R el _
        refine ⟨t', _, rfl, ht, rfl, _, _, rfl, _, _, rfl, rfl, ?_⟩
        have y58 := y2.trans e8
        refine ⟨_, rfl, _, rfl, _, rfl, hd, l2, more, more2, rfl, rfl, y58 _ _ hhd, hl2, Nat.le_trans (show more.length + more2.length ≤ 16000000 by omega) (by decide), fun h8 nh8 => ⟨sz2, fun U nU => ?_⟩⟩
        have y9 := Ex.new (o := .lst (more ++ more2)) nh8
        have y10 := y9.trans (Ex.new (o := .tup [.str eres.1, .ref h8]) nU)
        exact post1 U h8 (more ++ more2) _ (e5.trans (y58.trans y10)) (SqT.of upd_same) ((Ex.new nU) _ _ upd_same) (ents_app (ents_toI (ExI.of (y58.trans y10)) hen) (ents_toI (ExI.of y10) hen2))
theorem ok_listened (D : Def K mg "_law_listened" s_l_listened f_l_listened fd_l_listened ["_law_condition", "_law_row", "_law_spot"]) (bi : Bi mg)
    (D_l_parts : Def K mg "_law_parts" s_l_parts f_l_parts fd_l_parts ["_law_condition"])
    (G_l_parts : FnOk P w K mg base CX0 1 f_l_parts fd_l_parts ["_law_condition"] (spParts K))
    (D_l_told : Def K mg "_law_told" s_l_told f_l_told fd_l_told ["_law_leaf_here", "_law_row"])
    (G_l_told : FnOk P w K mg base CX0 2 f_l_told fd_l_told ["_law_leaf_here", "_law_row"] (spAskLeaf K)) :
    ∀ n : Nat, FnOk P w K mg base CX0 (n + 2) f_l_listened fd_l_listened ["_law_condition", "_law_row", "_law_spot"] (spListened K n)
  | 0 => fn_none fun vs H Q E ⟨_, _, _, _, _, _, _, _, _, h, _⟩ => absurd h (Nat.not_lt_zero _)
  | n + 1 => by
    show FnOk P w K mg base CX0 (n + 2 + 1) f_l_listened fd_l_listened ["_law_condition", "_law_row", "_law_spot"] (spListened K (n + 1))
    exact ok_listened_of D bi D_l_parts G_l_parts D_l_told G_l_told (ok_listened D bi D_l_parts G_l_parts D_l_told G_l_told n)
end
end K26

set_option Elab.async false
set_option linter.all false
set_option maxRecDepth 100000
set_option maxHeartbeats 4000000
namespace Gx
open PySem PySem.Spec PyProof.Rows L2 Evl
/-! What is heard on the way: addresses with words. -/
def Tr (n : Nat) (d : PyData) : Prop := ∃ adr w, d = entry adr w ∧ w ∈ words ∧ adr.length ≤ n ∧ ∀ i ∈ adr, 0 ≤ i ∧ i ≤ 4000000
def TrR (n : Nat) (r : Res) : Prop := ∀ d ∈ r.2, Tr n d
theorem Tr.mono {n m : Nat} {d : PyData} (h : Tr n d) (l : n ≤ m) : Tr m d := by
  obtain ⟨adr, w, h1, h2, h3, h4⟩ := h
  exact ⟨adr, w, h1, h2, Nat.le_trans h3 l, h4⟩
theorem TrR.mono {n m : Nat} {r : Res} (h : TrR n r) (l : n ≤ m) : TrR m r := fun d hd => (h d hd).mono l
theorem allOf_tr {dec : Str} {n : Nat} : ∀ {rs : List Res} {found : Str}, (∀ r ∈ rs, TrR n r) → TrR n (allOf dec found rs)
  | [], _, _ => fun d hd => by unfold allOf at hd; cases hd
  | r :: rs, found, h => by
    have h1 := h r List.mem_cons_self
    have ih := allOf_tr (dec := dec) (rs := rs) (found := if r.1 = "unknown" then r.1 else found) (fun z hz => h z (List.mem_cons_of_mem _ hz))
    unfold allOf
    by_cases c : r.1 = "error" ∨ r.1 = dec
    · rw [if_pos c]; exact h1
    · rw [if_neg c]
      intro d hd
      rcases List.mem_append.mp hd with q | q
      · exact h1 d q
      · exact ih d q
theorem firstOf_tr {n : Nat} : ∀ {rs : List Res}, (∀ r ∈ rs, TrR n r) → TrR n (firstOf rs)
  | [], _ => fun d hd => by unfold firstOf at hd; cases hd
  | r :: rs, h => by
    have h1 := h r List.mem_cons_self
    have ih := firstOf_tr (rs := rs) (fun z hz => h z (List.mem_cons_of_mem _ hz))
    unfold firstOf
    by_cases c : r.1 = "unknown"
    · rw [if_pos c]
      intro d hd
      rcases List.mem_append.mp hd with q | q
      · exact h1 d q
      · exact ih d q
    · rw [if_neg c]; exact h1
theorem caseOf_tr {n : Nat} : ∀ {rs ts : List Res} {e : Res}, (∀ r ∈ rs, TrR n r) → (∀ r ∈ ts, TrR n r) → TrR n e → TrR n (caseOf rs ts e)
  | [], _, e, _, _, h => by unfold caseOf; exact h
  | _ :: _, [], e, _, _, h => by unfold caseOf; exact h
  | r :: rs, t :: ts, e, h, h', he => by
    have h1 := h r List.mem_cons_self
    have h2 := h' t List.mem_cons_self
    have ih := caseOf_tr (rs := rs) (ts := ts) (e := e) (fun z hz => h z (List.mem_cons_of_mem _ hz)) (fun z hz => h' z (List.mem_cons_of_mem _ hz)) he
    unfold caseOf
    by_cases c : r.1 = "error"
    · rw [if_pos c]; exact h1
    · rw [if_neg c]
      by_cases y : r.1 = "yes"
      · rw [if_pos y]
        intro d hd
        rcases List.mem_append.mp hd with q | q
        · exact h1 d q
        · exact h2 d q
      · rw [if_neg y]
        intro d hd
        rcases List.mem_append.mp hd with q | q
        · exact h1 d q
        · exact ih d q
theorem near_app {a : List Int} {i : Int} (ha : ∀ i ∈ a, 0 ≤ i ∧ i ≤ 4000000) (h0 : 0 ≤ i) (h1 : i ≤ 4000000) : ∀ j ∈ a ++ [i], 0 ≤ j ∧ j ≤ 4000000 := fun j hj => by
  rcases List.mem_append.mp hj with q | q
  · exact ha j q
  · rw [List.mem_singleton] at q; subst q; exact ⟨h0, h1⟩
mutual
theorem run_tr {R : Str → V} {ns : List Str} : ∀ (c : Cnd) (a : List Int), c.ok ns → c.weight ≤ 32000000 → (∀ i ∈ a, 0 ≤ i ∧ i ≤ 4000000) → TrR (a.length + c.depth) (run R a c)
  | .leaf l, a, h, _, ha => by
    simp only [run]
    intro d hd
    rw [List.mem_singleton] at hd
    subst hd
    exact ⟨a, _, rfl, leaf_word h, Nat.le_add_right _ _, ha⟩
  | .not c, a, h, hw, ha => by
    rw [Cnd.ok] at h
    rw [Cnd.weight] at hw
    simp only [run]
    have := run_tr (R := R) c (a ++ [0]) h (by omega) (near_app ha (by decide) (by decide))
    rw [List.length_append, List.length_singleton] at this
    rw [Cnd.depth]
    exact fun d hd => (this d hd).mono (by omega)
  | .node k cs, a, h, hw, ha => by
    rw [Cnd.ok] at h
    rw [Cnd.weight] at hw
    simp only [run]
    have wl := weightL_len cs
    have := runL_tr (R := R) cs a 0 1 h.2 (by omega) ha (by decide) (by decide) (by omega)
    rw [Cnd.depth]
    have t : ∀ r ∈ runL R a 0 1 cs, TrR (a.length + (Cnd.depthL cs + 1)) r := fun r hr => (this r hr).mono (by omega)
    unfold nodeOf
    split
    · exact firstOf_tr t
    · split
      · exact allOf_tr t
      · exact allOf_tr t
  | .case ws ts e, a, h, hw, ha => by
    rw [Cnd.ok] at h
    rw [Cnd.weight] at hw
    simp only [run]
    have wl := weightL_len ws
    have wt := weightL_len ts
    have t1 := runL_tr (R := R) ws a 0 2 h.2.1 (by omega) ha (by decide) (by decide) (by omega)
    have t2 := runL_tr (R := R) ts a 1 2 h.2.2.1 (by omega) ha (by decide) (by decide) (by omega)
    have t3 := run_tr (R := R) e (a ++ [2 * (ws.length : Int)]) h.2.2.2 (by omega) (near_app ha (by omega) (by omega))
    rw [List.length_append, List.length_singleton] at t3
    rw [Cnd.depth]
    exact caseOf_tr (fun r hr => (t1 r hr).mono (by omega)) (fun r hr => (t2 r hr).mono (by omega)) (t3.mono (by omega))
theorem runL_tr {R : Str → V} {ns : List Str} : ∀ (cs : List Cnd) (a : List Int) (i st : Int), Cnd.okL ns cs → Cnd.weightL cs ≤ 32000000 → (∀ i ∈ a, 0 ≤ i ∧ i ≤ 4000000) → 0 ≤ i → 0 ≤ st → i + st * cs.length ≤ 4000000 →
    ∀ r ∈ runL R a i st cs, TrR (a.length + Cnd.depthL cs + 1) r
  | [], a, i, st, _, _, _, _, _, _, r, h => by simp [runL] at h
  | c :: cs, a, i, st, h, hw, ha, hi, hs, hl, r, hr => by
    rw [Cnd.okL] at h
    rw [Cnd.weightL] at hw
    rw [runL] at hr
    rw [Cnd.depthL]
    rw [List.length_cons, Int.natCast_add, Int.mul_add] at hl
    have hp : 0 ≤ st * (cs.length : Int) := Int.mul_nonneg hs (Int.natCast_nonneg _)
    rcases List.mem_cons.mp hr with rfl | hr
    · have := run_tr (R := R) c (a ++ [i]) h.1 (by omega) (near_app ha hi (by simp at hl; omega))
      rw [List.length_append, List.length_singleton] at this
      exact this.mono (by omega)
    · exact (runL_tr cs a (i + st) st h.2 (by omega) ha (by omega) hs (by simp at hl; omega) r hr).mono (by omega)
end
/-! ### no more is heard than there are leaves -/
def tot : List Res → Nat
  | [] => 0
  | r :: rs => r.2.length + tot rs
theorem allOf_tot {dec : Str} : ∀ (rs : List Res) (found : Str), (allOf dec found rs).2.length ≤ tot rs
  | [], _ => by unfold allOf; exact Nat.zero_le _
  | r :: rs, found => by
    have ih := allOf_tot (dec := dec) rs (if r.1 = "unknown" then r.1 else found)
    unfold allOf tot
    split
    · omega
    · simp only [List.length_append]; omega
theorem firstOf_tot : ∀ rs : List Res, (firstOf rs).2.length ≤ tot rs
  | [] => by unfold firstOf; exact Nat.zero_le _
  | r :: rs => by
    have ih := firstOf_tot rs
    unfold firstOf tot
    split
    · simp only [List.length_append]; omega
    · omega
theorem caseOf_tot : ∀ (rs ts : List Res) (e : Res), (caseOf rs ts e).2.length ≤ tot rs + tot ts + e.2.length
  | [], ts, e => by unfold caseOf; exact Nat.le_add_left _ _
  | _ :: _, [], e => by unfold caseOf; exact Nat.le_add_left _ _
  | r :: rs, t :: ts, e => by
    have ih := caseOf_tot rs ts e
    unfold caseOf tot
    split
    · omega
    · split
      · simp only [List.length_append]; omega
      · simp only [List.length_append]; omega
theorem few3 {a b c x y z : Nat} (h1 : 200000 * a ≤ x) (h2 : 200000 * b ≤ y) (h3 : 200000 * c ≤ z) : 200000 * (a + b + c) ≤ x + y + z + 40 := by omega
theorem few2 {a b x y : Nat} (h1 : 200000 * a ≤ x) (h2 : 200000 * b ≤ y) : 200000 * (a + b) ≤ x + y + 20 := by omega
theorem few1 {a b x : Nat} (h : a ≤ b) (h1 : 200000 * b ≤ x) : 200000 * a ≤ x + 40 := by omega
theorem few0 {a b x : Nat} (h : a ≤ b) (h1 : 200000 * b ≤ x) : 200000 * a ≤ x := by omega
theorem few_leaf : 200000 * 1 ≤ 200000 := by decide
theorem few_nil : 200000 * 0 ≤ 0 := by decide
theorem nodeOf_tot (k : Str) (rs : List Res) : (nodeOf k rs).2.length ≤ tot rs := by
  unfold nodeOf
  split
  · exact firstOf_tot _
  · split
    · exact allOf_tot _ _
    · exact allOf_tot _ _
mutual
theorem run_few (R : Str → V) : ∀ (c : Cnd) (a : List Int), 200000 * (run R a c).2.length ≤ c.weight
  | .leaf l, a => by rw [run, Cnd.weight]; exact few_leaf
  | .not c, a => by rw [run, Cnd.weight]; exact few1 (Nat.le_refl _) (run_few R c (a ++ [0]))
  | .node k cs, a => by rw [run, Cnd.weight]; exact few1 (nodeOf_tot _ _) (runL_few R cs a 0 1)
  | .case ws ts e, a => by
    rw [run, Cnd.weight]
    exact few0 (caseOf_tot _ _ _) (few3 (runL_few R ws a 0 2) (runL_few R ts a 1 2) (run_few R e _))
theorem runL_few (R : Str → V) : ∀ (cs : List Cnd) (a : List Int) (i st : Int), 200000 * tot (runL R a i st cs) ≤ Cnd.weightL cs
  | [], a, i, st => by rw [runL, tot, Cnd.weightL]; exact few_nil
  | c :: cs, a, i, st => by
    rw [runL, tot, Cnd.weightL]
    exact few2 (run_few R c _) (runL_few R cs a _ st)
end
theorem near_of {i : Int} (h : 0 ≤ i ∧ i ≤ 4000000) : Near i := by unfold Near; omega
theorem fit_ints : ∀ adr : List Int, (∀ i ∈ adr, 0 ≤ i ∧ i ≤ 4000000) → FitL (adr.map PyData.int) 0 (1923 * adr.length)
  | [], _ => fit_nil 0
  | i :: adr, h => (fit_cons (fit_int (near_of (h i List.mem_cons_self))) (fit_ints adr fun j hj => h j (List.mem_cons_of_mem _ hj))).mono (Nat.le_refl _) (by rw [List.length_cons]; omega)
theorem fit_entry {n : Nat} {d : PyData} (h : Tr n d) (hn : n ≤ 20) : Fit d 2 39000 := by
  obtain ⟨adr, w, rfl, hw, hl, ha⟩ := h
  have f1 := fit_tup (fit_ints adr ha)
  have f2 := fit_str (nm_word hw)
  exact (fit_tup (fit_cons (f1.mono (n' := 1) (by decide) (m' := 1923 * 20 + 3) (by omega)) (fit_cons (f2.mono (n' := 1) (by decide) (Nat.le_refl _)) (fit_nil 1)))).mono (by decide) (by decide)
theorem fit_entries {n : Nat} (hn : n ≤ 20) : ∀ ds : List PyData, (∀ d ∈ ds, Tr n d) → FitL ds 2 (39002 * ds.length)
  | [], _ => fit_nil 2
  | d :: ds, h => (fit_cons (fit_entry (h d List.mem_cons_self) hn) (fit_entries hn ds fun x hx => h x (List.mem_cons_of_mem _ hx))).mono (Nat.le_refl _) (by rw [List.length_cons]; omega)
theorem ents_dp {K : PySem.W.Frag} {H : Hp} : ∀ {vs : List V} {ds : List PyData}, Ents K H vs ds → DpAll K H vs ds
  | [], [], _ => .nil
  | v :: vs, d :: ds, ⟨⟨e, ad, adr, w, h1, h2, h3, h4⟩, t⟩ => by
    subst h1 h2
    exact .cons (.tup h3 (.cons (.tup h4 (dpAll_ints adr)) (.cons (.str w) .nil))) (ents_dp t)
  | [], _ :: _, h => h.elim
  | _ :: _, [], h => h.elim
end Gx

set_option Elab.async false
set_option linter.all false
set_option maxRecDepth 100000
set_option maxHeartbeats 4000000
/-! repr of data with dicts in it: only a dict's own place has to be no table of modules. -/
namespace Gx
open PySem PySem.Spec PyProof.Rows L2 Evl
mutual
inductive Rs (h : Heap) : Value → PyData → Prop
  | none : Rs h .none .none
  | bool (b) : Rs h (.bool b) (.bool b)
  | int (i t) : Rs h (.int i t) (.int i)
  | str (x t) : Rs h (.str x t) (.str x)
  | list {a o vs n ds} (e : h.get? a = some o) (c : o.cls = .type "list") (q : o.data = .seq vs n) (m : RsAll h vs.toList ds) : Rs h (.ref a) (.list ds)
  | tuple {a o vs n ds} (e : h.get? a = some o) (c : o.cls = .type "tuple") (q : o.data = .seq vs n) (m : RsAll h vs.toList ds) : Rs h (.ref a) (.tuple ds)
  | dict {a o es n ps} (y : (a == sysModules) = false) (e : h.get? a = some o) (c : o.cls = .type "dict") (q : o.data = .dict es n)
      (m : RsAll h (es.toList.map (·.key)) (ps.map (·.1))) (m2 : RsAll h (es.toList.map (·.val)) (ps.map (·.2))) : Rs h (.ref a) (.dict ps)
inductive RsAll (h : Heap) : List Value → List PyData → Prop
  | nil : RsAll h [] []
  | cons {v vs d ds} : Rs h v d → RsAll h vs ds → RsAll h (v :: vs) (d :: ds)
end
mutual
theorem Rs.read {h : Heap} : ∀ {v : Value} {d : PyData}, Rs h v d → ∃ as, Reads h v d as
  | _, _, .none => ⟨_, Reads.none⟩
  | _, _, .bool b => ⟨_, Reads.bool b⟩
  | _, _, .int i t => ⟨_, Reads.int i t⟩
  | _, _, .str x t => ⟨_, Reads.str x t⟩
  | _, _, .list e c q m => let ⟨_, z⟩ := RsAll.read m; ⟨_, Reads.list e c q z⟩
  | _, _, .tuple e c q m => let ⟨_, z⟩ := RsAll.read m; ⟨_, Reads.tuple e c q z⟩
  | _, _, .dict _ e c q m m2 => let ⟨_, z⟩ := RsAll.read m; let ⟨_, z2⟩ := RsAll.read m2; ⟨_, Reads.dict e c q z z2⟩
theorem RsAll.read {h : Heap} : ∀ {vs : List Value} {ds : List PyData}, RsAll h vs ds → ∃ as, ReadsAll h vs ds as
  | _, _, .nil => ⟨_, ReadsAll.nil⟩
  | _, _, .cons r m => let ⟨_, z⟩ := Rs.read r; let ⟨_, z2⟩ := RsAll.read m; ⟨_, ReadsAll.cons z z2⟩
end
section
variable {prog : Program} {w : World} {h : Heap}
/-- what a thing at a depth tells of the places within it -/
abbrev Sh (prog : Program) (w : World) (h : Heap) (n : Nat) (v : Value) (t : Str) : Prop := ∃ bs, ReadAtMost h n bs ∧ ReprK prog w bs h n v t
abbrev ShAll (prog : Program) (w : World) (h : Heap) (n : Nat) (vs : List Value) (ts : List Str) : Prop := ∃ bs, ReadAtMost h n bs ∧ ReprAllK prog w bs h n vs ts
theorem atMost_mono {n m : Nat} {bs : List Addr} (z : ReadAtMost h n bs) (l : n ≤ m) : ReadAtMost h m bs := fun b hb =>
  let ⟨d, as, r, q⟩ := z b hb
  ⟨d, as, r, Nat.le_trans q l⟩
mutual
theorem Rs.sh : ∀ {v : Value} {d : PyData}, Rs h v d → d.showable = true → d.shown.length ≤ sizeLine → Sh prog w h d.depth v d.shown
  | _, _, .none, _, _ => ⟨[], (fun _ z => nomatch z), by simp only [PyData.shown]; exact ReprK.of_is ReprIs.none _ _ _⟩
  | _, _, .bool b, _, _ => ⟨[], (fun _ z => nomatch z), by simp only [PyData.shown]; exact ReprK.of_is (ReprIs.bool b) _ _ _⟩
  | _, _, .int i t, s, _ => ⟨[], (fun _ z => nomatch z), by simp only [PyData.shown]; exact ReprK.of_is (ReprIs.int t (by simpa [PyData.showable] using s)) _ _ _⟩
  | _, _, .str x t, _, l => ⟨[], (fun _ z => nomatch z), by simp only [PyData.shown]; exact ReprK.of_is (ReprIs.str x t (by simpa only [PyData.shown] using l)) _ _ _⟩
  | _, _, .list (a := a) (vs := vs) (ds := ds) e c q m, s, l => by
    have lt : (listText (PyData.shownAll ds)).length ≤ sizeLine := by simpa only [PyData.shown] using l
    obtain ⟨bs, z, k⟩ := RsAll.sh m (by simpa [PyData.showable] using s) (fun t ht => Nat.le_trans (listText_mem_le ht) lt)
    obtain ⟨as, r⟩ := (Rs.list e c q m).read
    have far : a ∉ bs := not_mem_of_deeper r (by simp only [PyData.depth]; exact Nat.lt_succ_self _) z
    refine ⟨a :: bs, ReadAtMost.cons r (by simp only [PyData.depth]; omega) z, ?_⟩
    simp only [PyData.shown, PyData.depth]
    rcases vs with ⟨_ | ⟨x, us⟩⟩
    · have m' : RsAll h [] ds := m
      cases m'
      simp only [listText_nil, PyData.shownAll]
      exact ReprK.listEmpty e c q
    · exact ReprK.list e c q far (by simpa using k.length_eq) (fun i y g => k.item i y (by simpa using g))
  | _, _, .tuple (a := a) (ds := ds) e c q m, s, l => by
    have lt : (tupleText (PyData.shownAll ds)).length ≤ sizeLine := by simpa only [PyData.shown] using l
    obtain ⟨bs, z, k⟩ := RsAll.sh m (by simpa [PyData.showable] using s) (fun t ht => Nat.le_trans (tupleText_mem_le ht) lt)
    obtain ⟨as, r⟩ := (Rs.tuple e c q m).read
    have far : a ∉ bs := not_mem_of_deeper r (by simp only [PyData.depth]; exact Nat.lt_succ_self _) z
    refine ⟨a :: bs, ReadAtMost.cons r (by simp only [PyData.depth]; omega) z, ?_⟩
    simp only [PyData.shown, PyData.depth]
    exact ReprK.tuple e c q far k
  | _, _, .dict (a := a) (es := es) (ps := ps) y e c q m m2, s, l => by
    have lt : (dictText (PyData.shownKv ps)).length ≤ sizeLine := by simpa only [PyData.shown] using l
    obtain ⟨s1, s2⟩ := PyData.showableKv_split ps (by simpa [PyData.showable] using s)
    obtain ⟨b1, z1, k1⟩ := RsAll.sh m s1 (fun t ht => let ⟨_, g1, g2⟩ := PyData.shownKv_key_le ps t ht; Nat.le_trans g2 (Nat.le_trans (dictText_mem_le g1) lt))
    obtain ⟨b2, z2, k2⟩ := RsAll.sh m2 s2 (fun t ht => let ⟨_, g1, g2⟩ := PyData.shownKv_val_le ps t ht; Nat.le_trans g2 (Nat.le_trans (dictText_mem_le g1) lt))
    obtain ⟨as, r⟩ := (Rs.dict y e c q m m2).read
    have z : ReadAtMost h (PyData.depthKv ps) (b1 ++ b2) := (atMost_mono z1 (PyData.depthAll_keys_le ps)).append (atMost_mono z2 (PyData.depthAll_vals_le ps))
    have far : a ∉ b1 ++ b2 := not_mem_of_deeper r (by simp only [PyData.depth]; exact Nat.lt_succ_self _) z
    refine ⟨a :: (b1 ++ b2), ReadAtMost.cons r (by simp only [PyData.depth]; omega) z, ?_⟩
    simp only [PyData.shownKv_eq, PyData.shown, PyData.depth]
    exact ReprK.dict e c q y far (ReprEntriesK.of_two es.toList _ _ (k1.more_le (fun b g => List.mem_append_left _ g) (PyData.depthAll_keys_le ps))
      (k2.more_le (fun b g => List.mem_append_right _ g) (PyData.depthAll_vals_le ps)))
theorem RsAll.sh : ∀ {vs : List Value} {ds : List PyData}, RsAll h vs ds → PyData.showableAll ds = true → (∀ t ∈ PyData.shownAll ds, t.length ≤ sizeLine) →
    ShAll prog w h (PyData.depthAll ds) vs (PyData.shownAll ds)
  | _, _, .nil, _, _ => ⟨[], (fun _ z => nomatch z), by simp only [PyData.shownAll]; exact ReprAllK.nil⟩
  | _, _, .cons (d := d) (ds := ds) r m, s, l => by
    have s' : d.showable = true ∧ PyData.showableAll ds = true := by simpa [PyData.showableAll] using s
    obtain ⟨b1, z1, k1⟩ := Rs.sh r s'.1 (l _ (by simp only [PyData.shownAll]; exact List.mem_cons_self))
    obtain ⟨b2, z2, k2⟩ := RsAll.sh m s'.2 (fun t ht => l t (by simp only [PyData.shownAll]; exact List.mem_cons_of_mem _ ht))
    refine ⟨b1 ++ b2, ?_, ?_⟩
    · simp only [PyData.depthAll]
      exact (atMost_mono z1 (Nat.le_max_left _ _)).append (atMost_mono z2 (Nat.le_max_right _ _))
    · simp only [PyData.shownAll, PyData.depthAll]
      exact ReprAllK.cons ((k1.more fun b g => List.mem_append_left _ g).level_le (Nat.le_max_left _ _)) (k2.more_le (fun b g => List.mem_append_right _ g) (Nat.le_max_right _ _))
end
/-- the whole thing, asked by repr -/
theorem Rs.by {a : Addr} {d : PyData} (r : Rs h (.ref a) d) (s : d.showable = true) (l : d.shown.length ≤ sizeLine) :
    ∃ T idr, ShowsBy prog w h a d T idr := by
  cases r with
  | list e c q m =>
    rename_i o vs n ds
    have lt : (listText (PyData.shownAll ds)).length ≤ sizeLine := by simpa only [PyData.shown] using l
    obtain ⟨bs, z, k⟩ := RsAll.sh (prog := prog) (w := w) m (by simpa [PyData.showable] using s) (fun t ht => Nat.le_trans (listText_mem_le ht) lt)
    obtain ⟨as, r⟩ := (Rs.list e c q m).read
    have far : a ∉ bs := not_mem_of_deeper r (by simp only [PyData.depth]; exact Nat.lt_succ_self _) z
    refine ⟨_, _, F.slot_list_repr.toG, F.slot_list_str, F.slot_list_format, fun s' kp => ⟨o, kp _ _ e, c⟩, fun A E s' Q g u kp k' => ?_⟩
    simp only [PyData.depth] at u
    simp only [PyData.shown] at k'
    rcases vs with ⟨_ | ⟨x, us⟩⟩
    · have m' : RsAll h [] ds := m
      cases m'
      simp only [listText_nil, PyData.shownAll] at k'
      exact call_list_repr_empty ⟨o, kp _ _ e, c⟩ (kp _ _ e) q (k' s'.heap _ _ fun _ _ g => g)
    · exact call_list_reprK e c q far (by simpa using k.length_eq) (fun i y g => k.item i y (by simpa using g)) g (fun b _ => Clear.nil b) u kp k' lt
  | tuple e c q m =>
    rename_i o vs n ds
    have lt : (tupleText (PyData.shownAll ds)).length ≤ sizeLine := by simpa only [PyData.shown] using l
    obtain ⟨bs, z, k⟩ := RsAll.sh (prog := prog) (w := w) m (by simpa [PyData.showable] using s) (fun t ht => Nat.le_trans (tupleText_mem_le ht) lt)
    obtain ⟨as, r⟩ := (Rs.tuple e c q m).read
    have far : a ∉ bs := not_mem_of_deeper r (by simp only [PyData.depth]; exact Nat.lt_succ_self _) z
    refine ⟨_, _, F.slot_tuple_repr, F.slot_tuple_str, F.slot_tuple_format, fun s' kp => ⟨o, kp _ _ e, c⟩, fun A E s' Q g u kp k' => ?_⟩
    simp only [PyData.depth] at u
    simp only [PyData.shown] at k'
    exact call_tuple_reprK e c q far k g (fun b _ => Clear.nil b) u kp k' lt
  | dict y e c q m m2 =>
    rename_i o es n ps
    have lt : (dictText (PyData.shownKv ps)).length ≤ sizeLine := by simpa only [PyData.shown] using l
    obtain ⟨s1, s2⟩ := PyData.showableKv_split ps (by simpa [PyData.showable] using s)
    obtain ⟨b1, z1, k1⟩ := RsAll.sh (prog := prog) (w := w) m s1 (fun t ht => let ⟨_, g1, g2⟩ := PyData.shownKv_key_le ps t ht; Nat.le_trans g2 (Nat.le_trans (dictText_mem_le g1) lt))
    obtain ⟨b2, z2, k2⟩ := RsAll.sh (prog := prog) (w := w) m2 s2 (fun t ht => let ⟨_, g1, g2⟩ := PyData.shownKv_val_le ps t ht; Nat.le_trans g2 (Nat.le_trans (dictText_mem_le g1) lt))
    obtain ⟨as, r⟩ := (Rs.dict y e c q m m2).read
    have z : ReadAtMost h (PyData.depthKv ps) (b1 ++ b2) := (atMost_mono z1 (PyData.depthAll_keys_le ps)).append (atMost_mono z2 (PyData.depthAll_vals_le ps))
    have far : a ∉ b1 ++ b2 := not_mem_of_deeper r (by simp only [PyData.depth]; exact Nat.lt_succ_self _) z
    refine ⟨_, _, F.slot_dict_repr, F.slot_dict_str, F.slot_dict_format, fun s' kp => ⟨o, kp _ _ e, c⟩, fun A E s' Q g u kp k' => ?_⟩
    simp only [PyData.depth] at u
    simp only [PyData.shown, PyData.shownKv_eq] at k'
    exact call_dict_reprK e c q y far (ReprEntriesK.of_two es.toList _ _ (k1.more_le (fun b g => List.mem_append_left _ g) (PyData.depthAll_keys_le ps))
      (k2.more_le (fun b g => List.mem_append_right _ g) (PyData.depthAll_vals_le ps))) g (fun b _ => Clear.nil b) u kp k' (by rw [← PyData.shownKv_eq]; exact lt)
end
/-! Data in the told heap, dicts with keys of ints and texts among it. -/
def kD : Key → PyData
  | .inl i => .int i
  | .inr x => .str x
mutual
inductive Dq (K : PySem.W.Frag) (H : Hp) : V → PyData → Prop
  | non : Dq K H .non .none
  | bl (b : Bool) : Dq K H (.bl b) (.bool b)
  | int (i : Int) : Dq K H (.int i) (.int i)
  | str (x : Str) : Dq K H (.str x) (.str x)
  | lst {a : Addr} {xs : List V} {ds : List PyData} : SqL K H a xs → DqAll K H xs ds → Dq K H (.ref a) (.list ds)
  | tup {a : Addr} {xs : List V} {ds : List PyData} : SqT K H a xs → DqAll K H xs ds → Dq K H (.ref a) (.tuple ds)
  | dct {a : Addr} {kvs : List (Key × V)} {ps : List (PyData × PyData)} : H a = some (.dK kvs) → DqKvs K H kvs ps → Dq K H (.ref a) (.dict ps)
inductive DqAll (K : PySem.W.Frag) (H : Hp) : List V → List PyData → Prop
  | nil : DqAll K H [] []
  | cons {v : V} {vs : List V} {d : PyData} {ds : List PyData} : Dq K H v d → DqAll K H vs ds → DqAll K H (v :: vs) (d :: ds)
inductive DqKvs (K : PySem.W.Frag) (H : Hp) : List (Key × V) → List (PyData × PyData) → Prop
  | nil : DqKvs K H [] []
  | cons {k : Key} {v : V} {kvs : List (Key × V)} {d : PyData} {ps : List (PyData × PyData)} : Dq K H v d → DqKvs K H kvs ps → DqKvs K H ((k, v) :: kvs) ((kD k, d) :: ps)
end
section
variable {K : PySem.W.Frag} {H H' : Hp}
mutual
theorem Dp.q : ∀ (d : PyData) (v : V), Dp K H v d → Dq K H v d
  | .none, _, z => by cases z; exact .non
  | .bool b, _, z => by cases z; exact .bl b
  | .int i, _, z => by cases z; exact .int i
  | .str x, _, z => by cases z; exact .str x
  | .list ds, _, z => by cases z with | lst a b => exact .lst a (DpAll.q ds _ b)
  | .tuple ds, _, z => by cases z with | tup a b => exact .tup a (DpAll.q ds _ b)
  | .dict _, _, z => by cases z
theorem DpAll.q : ∀ (ds : List PyData) (vs : List V), DpAll K H vs ds → DqAll K H vs ds
  | [], _, z => by cases z; exact .nil
  | d :: ds, _, z => by cases z with | cons a b => exact .cons (Dp.q d _ a) (DpAll.q ds _ b)
end
theorem _root_.L2.Dp.dq {d : PyData} {v : V} (z : Dp K H v d) : Dq K H v d := Dp.q d v z
theorem _root_.L2.DpAll.dq {ds : List PyData} {vs : List V} (z : DpAll K H vs ds) : DqAll K H vs ds := DpAll.q ds vs z
mutual
theorem Dq.to (e : Ex H H') : ∀ {v : V} {d : PyData}, Dq K H v d → Dq K H' v d
  | _, _, .non => .non
  | _, _, .bl b => .bl b
  | _, _, .int i => .int i
  | _, _, .str x => .str x
  | _, _, .lst a b => .lst (ex_l e a) (DqAll.to e b)
  | _, _, .tup a b => .tup (ex_t e a) (DqAll.to e b)
  | _, _, .dct a b => .dct (e _ _ a) (DqKvs.to e b)
theorem DqAll.to (e : Ex H H') : ∀ {vs : List V} {ds : List PyData}, DqAll K H vs ds → DqAll K H' vs ds
  | _, _, .nil => .nil
  | _, _, .cons a b => .cons (Dq.to e a) (DqAll.to e b)
theorem DqKvs.to (e : Ex H H') : ∀ {kvs : List (Key × V)} {ps : List (PyData × PyData)}, DqKvs K H kvs ps → DqKvs K H' kvs ps
  | _, _, .nil => .nil
  | _, _, .cons a b => .cons (Dq.to e a) (DqKvs.to e b)
end
end
section
variable {X : Cx} {pins : List (Addr × Obj)} {σ : L2.St} {H : Hp} {s : Shared}
theorem keys_rs {P : Program} {w : World} {h : Heap} {es : List DictEntry} {vs : List (Key × Value)} (p : Pairs (mixKind P w) es vs) :
    RsAll h (es.map (·.key)) (vs.map fun q => kD q.1) := by
  induction p with
  | nil => exact .nil
  | cons a b c ih =>
    rename_i e kv es kvs
    refine .cons ?_ ih
    rcases keyIs_shape (show keyIs kv.1 e.key = true from a) with ⟨i, t, e1, e2⟩ | ⟨x, t, e1, e2⟩
    · show Rs h e.key (kD kv.1)
      rw [e1, e2]; exact .int i t
    · show Rs h e.key (kD kv.1)
      rw [e1, e2]; exact .str x t
theorem vals_eq {P : Program} {w : World} {es : List DictEntry} {vs : List (Key × Value)} (p : Pairs (mixKind P w) es vs) :
    es.map (·.val) = vs.map (·.2) := by
  induction p with
  | nil => rfl
  | cons a b c ih => rw [List.map_cons, List.map_cons, ih, b]
mutual
theorem Dq.rs (I : Inv X pins σ H s) : ∀ {v : V} {d : PyData} {u : Value}, Dq X.K H v d → RelV v u → Rs s.heap u d
  | _, _, _, .non, r => by cases r; exact .none
  | _, _, _, .bl b, r => by cases r; exact .bool b
  | _, _, _, .int i, r => by obtain ⟨t, rfl⟩ := r; exact .int i t
  | _, _, _, .str x, r => by obtain ⟨t, rfl⟩ := r; exact .str x t
  | _, _, _, .lst hs ha, r => by
    cases r
    obtain ⟨its, rv, ⟨o, n, ho, hc, _, hd⟩, _⟩ := I.list hs
    exact .list ho hc hd (DqAll.rs I ha rv)
  | _, _, _, .tup hs ha, r => by
    cases r
    obtain ⟨its, rv, ⟨o, ho, hc, n, hd⟩, _⟩ := I.tuple hs
    exact .tuple ho hc hd (DqAll.rs I ha rv)
  | _, _, _, .dct ha hk, r => by
    cases r
    obtain ⟨_, y, vs, rel, o, es, ep, ho, hx, hd, _, pr, _⟩ := dk_of I.hok ha
    obtain ⟨m1, m2⟩ := DqKvs.rs I hk rel
    refine .dict y ho hx.1 hd ?_ ?_
    · rw [← m1]; exact keys_rs pr
    · rw [vals_eq pr]; exact m2
theorem DqAll.rs (I : Inv X pins σ H s) : ∀ {vs : List V} {ds : List PyData} {us : List Value}, DqAll X.K H vs ds → Vals vs us → RsAll s.heap us ds
  | _, _, _, .nil, r => by cases r; exact .nil
  | _, _, _, .cons a b, r => by cases r with | cons r1 r2 => exact .cons (Dq.rs I a r1) (DqAll.rs I b r2)
theorem DqKvs.rs (I : Inv X pins σ H s) : ∀ {kvs : List (Key × V)} {ps : List (PyData × PyData)} {vs : List (Key × Value)}, DqKvs X.K H kvs ps → KV kvs vs →
    (vs.map fun q => kD q.1) = ps.map (·.1) ∧ RsAll s.heap (vs.map (·.2)) (ps.map (·.2))
  | _, _, _, .nil, r => by cases r; exact ⟨rfl, .nil⟩
  | _, _, _, .cons a b, r => by
    cases r with
    | cons r1 r2 =>
      obtain ⟨m1, m2⟩ := DqKvs.rs I b r2
      refine ⟨?_, .cons (Dq.rs I a r1.2) m2⟩
      rw [List.map_cons, List.map_cons, m1, ← r1.1]
end
end
/-- how many signs repr may take, dicts too -/
def wq : PyData → Nat
  | .none => 4
  | .bool _ => 5
  | .int _ => 1921
  | .str x => (reprText x).length
  | .list xs => wqAll xs + 2
  | .tuple xs => wqAll xs + 3
  | .dict ps => wqKv ps + 2
where
  wqAll : List PyData → Nat
  | [] => 0
  | x :: xs => wq x + 2 + wqAll xs
  wqKv : List (PyData × PyData) → Nat
  | [] => 0
  | (k, v) :: ps => wq k + wq v + 4 + wqKv ps
theorem dictText_wide (ts : List Str) : (dictText ts).length ≤ piled ts + 2 := by
  have e1 : ((("{" : String) : Str)).length = 1 := rfl
  have e2 : ((("}" : String) : Str)).length = 1 := rfl
  unfold dictText
  rw [strLen_append, strLen_append, e1, e2]
  by_cases z : ts = []
  · subst z
    have : (Str.join ", " ([] : List Str)).length = 0 := rfl
    omega
  · have := join_length_add ts z
    omega
mutual
theorem shown_wq : ∀ d : PyData, d.showable = true → d.shown.length ≤ wq d
  | .none, _ => by simp only [PyData.shown, wq]; decide
  | .bool b, _ => by cases b <;> (simp only [PyData.shown, wq]; decide)
  | .int i, z => by
    simp only [PyData.shown, wq]
    exact PyProof.Rows.int_text_len_1921 (of_decide_eq_true (by simpa only [PyData.showable] using z))
  | .str x, _ => by simp only [PyData.shown, wq]; exact Nat.le_refl _
  | .list xs, z => by
    simp only [PyData.shown, wq]
    have q := shown_wqAll xs (by simpa only [PyData.showable] using z)
    exact Nat.le_trans (listText_wide _) (by omega)
  | .tuple xs, z => by
    simp only [PyData.shown, wq]
    have q := shown_wqAll xs (by simpa only [PyData.showable] using z)
    exact Nat.le_trans (tupText_wide _) (by omega)
  | .dict ps, z => by
    simp only [PyData.shown, wq]
    have q := shown_wqKv ps (by simpa only [PyData.showable] using z)
    exact Nat.le_trans (dictText_wide _) (by omega)
theorem shown_wqAll : ∀ ds : List PyData, PyData.showableAll ds = true → piled (PyData.shownAll ds) ≤ wq.wqAll ds
  | [], _ => by simp [PyData.shownAll, piled, wq.wqAll]
  | d :: ds, z => by
    simp only [PyData.showableAll, Bool.and_eq_true] at z
    have q1 := shown_wq d z.1
    have q2 := shown_wqAll ds z.2
    simp only [PyData.shownAll, piled_cons, wq.wqAll]
    omega
theorem shown_wqKv : ∀ ps : List (PyData × PyData), PyData.showableKv ps = true → piled (PyData.shownKv ps) ≤ wq.wqKv ps
  | [], _ => by simp [PyData.shownKv, piled, wq.wqKv]
  | (k, v) :: ps, z => by
    simp only [PyData.showableKv, Bool.and_eq_true] at z
    have q1 := shown_wq k z.1.1
    have q2 := shown_wq v z.1.2
    have q3 := shown_wqKv ps z.2
    have e3 : (((": " : String) : Str)).length = 2 := rfl
    simp only [PyData.shownKv, piled_cons, wq.wqKv, strLen_append]
    omega
end
section
variable {X : Cx}
def rRepQ (K : PySem.W.Frag) : List V → Hp → VK → Prop := fun xs H Q =>
  ∃ v d, xs = [v] ∧ Dq K H v d ∧ d.showable = true ∧ d.depth ≤ 100 ∧ wq d ≤ 10000000 ∧ Q (.str d.shown) H
theorem call_reprQ (qu : Quiet X.A) (hu : X.A.units + 200 < cLine) : CallR X (.builtin "repr") (rRepQ X.K) := by
  intro pins s σ H xs us Q I rv z
  obtain ⟨v, d, rfl, hd, h1, h3, h4, q⟩ := z
  obtain ⟨u, rfl, ru⟩ := vals1 rv
  have rd := Dq.rs I hd ru
  have sz : d.shown.length ≤ sizeLine := Nat.le_trans (shown_wq d h1) (Nat.le_trans h4 big_sz)
  have fin : ∀ h' t tk, (∀ b o, s.heap.get? b = some o → h'.get? b = some o) → EP X pins σ Q (.str d.shown t) { s with heap := h', toks := tk } :=
    fun h' t tk k => ⟨.str _, H, I.kept k, ⟨_, rfl⟩, q⟩
  cases hd with
  | non =>
    obtain rfl : u = Value.none := ru
    exact PySem.P.repr_of_none (fin s.heap _ _ fun _ _ e => e)
  | bl b =>
    obtain rfl : u = Value.bool b := ru
    refine PySem.P.repr_of_bool ?_
    have z := fin s.heap s.toks (s.toks + 1) fun _ _ e => e
    simp only [PyData.shown] at z
    cases b <;> exact z
  | int i =>
    obtain ⟨t, rfl⟩ := ru
    exact PySem.P.repr_of_int (of_decide_eq_true (by simpa only [PyData.showable] using h1)) (fin s.heap _ _ fun _ _ e => e)
  | str x =>
    obtain ⟨t, rfl⟩ := ru
    exact PySem.P.repr_of_str (fin s.heap _ _ fun _ _ e => e) sz
  | lst hs ha =>
    obtain rfl : u = Value.ref _ := ru
    obtain ⟨T, idr, S⟩ := rd.by (prog := X.prog) (w := X.w) h1 sz
    exact call_repr_slot (by omega) (S.typeIs s fun _ _ e => e) S.slotRepr (S.call X.A.in1 _ s _ qu (by show X.A.units + 1 + _ < cLine; omega) (fun _ _ e => e) fun h' u tk hk => ⟨_, _, rfl, fin h' u tk hk⟩)
  | tup hs ha =>
    obtain rfl : u = Value.ref _ := ru
    obtain ⟨T, idr, S⟩ := rd.by (prog := X.prog) (w := X.w) h1 sz
    exact call_repr_slot (by omega) (S.typeIs s fun _ _ e => e) S.slotRepr (S.call X.A.in1 _ s _ qu (by show X.A.units + 1 + _ < cLine; omega) (fun _ _ e => e) fun h' u tk hk => ⟨_, _, rfl, fin h' u tk hk⟩)
  | dct ha hk =>
    obtain rfl : u = Value.ref _ := ru
    obtain ⟨T, idr, S⟩ := rd.by (prog := X.prog) (w := X.w) h1 sz
    exact call_repr_slot (by omega) (S.typeIs s fun _ _ e => e) S.slotRepr (S.call X.A.in1 _ s _ qu (by show X.A.units + 1 + _ < cLine; omega) (fun _ _ e => e) fun h' u tk hk => ⟨_, _, rfl, fin h' u tk hk⟩)
end
end Gx

set_option Elab.async false
set_option linter.all false
set_option maxRecDepth 100000
set_option maxHeartbeats 4000000
namespace K26
open PySem PySem.Spec PyProof.Rows L2 Evl Gx
/-- all stands but dicts -/
def ExD (H H' : Hp) : Prop := ∀ a o, H a = some o → (∀ kvs, o ≠ .dK kvs) → H' a = some o
theorem ExD.of {H H' : Hp} (e : Ex H H') : ExD H H' := fun a o h _ => e a o h
theorem ExD.trans {H H1 H2 : Hp} (e : ExD H H1) (e' : ExD H1 H2) : ExD H H2 := fun a o h n => e' a o (e a o h n) n
theorem ExD.put {H : Hp} {r : Addr} {kvs kvs' : List (Key × V)} (h : H r = some (.dK kvs)) : ExD H (upd H r (.dK kvs')) := fun a o q n => by
  rw [upd_ne fun z => by subst z; rw [h] at q; cases q; exact n kvs rfl]
  exact q
theorem ExD.toI {H H' : Hp} (e : ExD H H') : ExI H H' := fun a o q i => e a o q fun kvs z => by subst z; cases i
theorem ExD.lst {H H' : Hp} {a : Addr} {xs : List V} (e : ExD H H') (h : H a = some (.lst xs)) : H' a = some (.lst xs) := e _ _ h fun _ z => by cases z
theorem ExD.bag {H H' : Hp} {b : Addr} (g : Bag H b) (e : ExD H H') : Bag H' b := by
  obtain ⟨l, cs, h1, h2, h3⟩ := g
  exact ⟨l, cs, e _ _ h1 (fun _ z => by cases z), e.lst h2, h3⟩
theorem ExD.cnd {K : PySem.W.Frag} {H H' : Hp} {v : V} {c : Cnd} (h : CndAt K H v c) (e : ExD H H') : CndAt K H' v c := cndAt_toI e.toI _ _ h
theorem ExD.col {K : PySem.W.Frag} {H H' : Hp} {v : V} {nm : Str} (h : ColAt K H v nm) (e : ExD H H') : ColAt K H' v nm := by
  obtain ⟨ct, low, hi, b1, b2, h1, h2, h3⟩ := h
  exact ⟨ct, low, hi, b1, b2, h1, e.toI.sq h2, h3⟩
theorem keyRow_put {H : Hp} {r r' : Addr} {ks : List Str} {kvs' : List (Key × V)} (h : KeyRow H r ks) (h' : kvs'.map (·.1) = ks.map Sum.inr) (ok : ∀ kv ∈ kvs', valOk kv.2) : KeyRow (upd H r' (.dK kvs')) r ks := by
  by_cases e : r = r'
  · subst e; exact ⟨kvs', upd_same, h', ok⟩
  · obtain ⟨kvs, h1, h2⟩ := h
    exact ⟨kvs, by rw [upd_ne e]; exact h1, h2⟩
theorem putK_keys {kvs : List (Key × V)} {k : Key} {v : V} (h : k ∈ kvs.map (·.1)) : (putK kvs k v).map (·.1) = kvs.map (·.1) := by
  unfold putK
  have : (kvs.any fun kv => decide (kv.1 = k)) = true := by
    obtain ⟨kv, h1, h2⟩ := List.mem_map.mp h
    exact List.any_eq_true.mpr ⟨kv, h1, decide_eq_true h2⟩
  rw [if_pos this, List.map_map]
  refine List.map_congr_left fun kv _ => ?_
  show (if kv.1 = k then (kv.1, v) else kv).1 = kv.1
  split <;> rfl
theorem putK_ok {kvs : List (Key × V)} {k : Key} {v : V} (h : ∀ kv ∈ kvs, valOk kv.2) (hv : valOk v) : ∀ kv ∈ putK kvs k v, valOk kv.2 := by
  intro kv hkv
  unfold putK at hkv
  split at hkv
  · obtain ⟨q, h1, h2⟩ := List.mem_map.mp hkv
    split at h2
    · subst h2; exact hv
    · subst h2; exact h q h1
  · rcases List.mem_append.mp hkv with g | g
    · exact h kv g
    · rw [List.mem_singleton] at g; subst g; exact hv
/-! a row as data -/
def vD : V → PyData
  | .int i => .int i
  | .str x => .str x
  | _ => .none
def rowD (kvs : List (Key × V)) : List (PyData × PyData) := kvs.map fun kv => (kD kv.1, vD kv.2)
theorem vD_q {K : PySem.W.Frag} {H : Hp} {v : V} (h : valOk v) : Dq K H v (vD v) ∧ (vD v).showable = true ∧ (vD v).depth = 0 ∧ wq (vD v) ≤ 2000 := by
  rcases h with rfl | ⟨i, rfl, hi⟩ | ⟨s, rfl, hs⟩
  · exact ⟨.non, rfl, rfl, by simp [vD, wq]⟩
  · refine ⟨.int i, ?_, rfl, by simp [vD, wq]⟩
    simp only [vD, PyData.showable]
    refine decide_eq_true ?_
    by_cases h0 : i.natAbs = 0
    · rw [h0]; decide
    · have := (Nat.log2_lt h0 (k := 200)).mpr hi
      omega
  · exact ⟨.str s, rfl, rfl, by simp only [vD, wq]; exact Nat.le_trans hs.short (by decide)⟩
theorem row_q {K : PySem.W.Frag} {H : Hp} : ∀ {kvs : List (Key × V)} {ks : List Str}, kvs.map (·.1) = ks.map Sum.inr → (∀ n ∈ ks, Nm n) → (∀ kv ∈ kvs, valOk kv.2) →
    DqKvs K H kvs (rowD kvs) ∧ PyData.showableKv (rowD kvs) = true ∧ PyData.depthKv (rowD kvs) ≤ 0 ∧ wq.wqKv (rowD kvs) ≤ 2104 * kvs.length
  | [], _, _, _, _ => ⟨.nil, rfl, Nat.le_refl _, Nat.le_refl _⟩
  | kv :: kvs, [], h, _, _ => by simp at h
  | (k, v) :: kvs, n :: ks, h, hn, hv => by
    simp only [List.map_cons, List.cons.injEq] at h
    obtain ⟨h1, h2⟩ := h
    subst h1
    obtain ⟨q1, q2, q3, q4⟩ := row_q (K := K) (H := H) h2 (fun m hm => hn m (List.mem_cons_of_mem _ hm)) (fun z hz => hv z (List.mem_cons_of_mem _ hz))
    obtain ⟨v1, v2, v3, v4⟩ := vD_q (K := K) (H := H) (v := v) (hv (Sum.inr n, v) List.mem_cons_self)
    have nm := hn n List.mem_cons_self
    refine ⟨.cons v1 q1, ?_, ?_, ?_⟩
    · show ((kD (Sum.inr n)).showable && (vD v).showable && PyData.showableKv (rowD kvs)) = true
      rw [q2, v2]; rfl
    · show max (max (kD (Sum.inr n)).depth (vD v).depth) (PyData.depthKv (rowD kvs)) ≤ 0
      have : (kD (Sum.inr n)).depth = 0 := rfl
      omega
    · show wq (kD (Sum.inr n)) + wq (vD v) + 4 + wq.wqKv (rowD kvs) ≤ 2104 * (kvs.length + 1)
      have : wq (kD (Sum.inr n)) ≤ 100 := by show wq (.str n) ≤ 100; simp only [wq]; exact nm.short
      omega
theorem valV_app {kvs : List (Key × V)} {k k' : Key} {v x : V} (h : valV kvs k = some x) : valV (kvs ++ [(k', v)]) k = some x := by
  unfold valV at h ⊢
  rw [List.find?_append]
  cases e : kvs.find? (fun kv => decide (kv.1 = k)) with
  | none => rw [e] at h; cases h
  | some z => rw [e] at h; exact h
theorem row_of {H : Hp} {r : Addr} {ns : List Str} (h : KeyRow H r ns) : ∃ R : Str → V, RowAt H r ns R := by
  obtain ⟨kvs, h1, h2, h3⟩ := h
  refine ⟨fun n => (valV kvs (Sum.inr n : Key)).getD .non, kvs, h1, fun n hn => ?_⟩
  have hk : (Sum.inr n : Key) ∈ kvs.map (·.1) := by rw [h2]; exact List.mem_map_of_mem hn
  obtain ⟨kv, hm, he⟩ := List.mem_map.mp hk
  have hf : ∃ z, kvs.find? (fun kv => decide (kv.1 = (Sum.inr n : Key))) = some z := by
    cases e : kvs.find? (fun kv => decide (kv.1 = (Sum.inr n : Key))) with
    | some z => exact ⟨z, rfl⟩
    | none =>
      have := List.find?_eq_none.mp e kv hm
      rw [he] at this
      simp at this
  obtain ⟨z, hz⟩ := hf
  have hv : valV kvs (Sum.inr n : Key) = some z.2 := by unfold valV; rw [hz]; rfl
  show valV kvs (Sum.inr n : Key) = some ((valV kvs (Sum.inr n : Key)).getD .non) ∧ valOk ((valV kvs (Sum.inr n : Key)).getD .non)
  rw [hv]
  exact ⟨rfl, h3 z (List.mem_of_find?_eq_some hz)⟩
theorem fit_sh {d : PyData} {n m : Nat} (h : Fit d n m) (hn : n ≤ 64) : SeqAt.shaped d = true := by
  unfold SeqAt.shaped
  rw [h.lay, Bool.true_and]
  exact decide_eq_true (Nat.le_trans h.deep hn)
end K26

set_option Elab.async false
set_option linter.all false
set_option maxRecDepth 100000
set_option maxHeartbeats 4000000
namespace Gx
open PySem PySem.Spec PyProof.Rows L2 Evl
/-! A list, whatever it holds, beside an empty one; how wide data without dicts is. -/
section
variable {X : Cx}
def rNeE (K : PySem.W.Frag) : R2 := fun x y H Q => ∃ a b xs, x = .ref a ∧ y = .ref b ∧ SqL K H a xs ∧ SqL K H b [] ∧ Q (.bl (!decide (xs = []))) H
theorem op_neE (hu : X.A.units + 64 < cLine) : OpR X (compareOp .NotEq) (rNeE X.K) := by
  intro pins s σ H x y v u Q I rx ry h
  obtain ⟨a, b, xs, rfl, rfl, ha, hb, q⟩ := h
  cases rx
  cases ry
  obtain ⟨its, r1, ⟨o, n, h1, h2, h3, h4⟩, _⟩ := I.list ha
  obtain ⟨jts, r2, ⟨p, m, k1, k2, k3, k4⟩, _⟩ := I.list hb
  have e2 : jts = [] := by have := r2.length; simpa using this.symm
  subst e2
  have hl : s.heap.IsList a its.toArray := ⟨o, h1, h2, n, h4⟩
  have hl' : s.heap.IsList b ([] : List Value).toArray := ⟨p, k1, k2, m, k4⟩
  cases xs with
  | nil =>
    have e1 : its = [] := by have := r1.length; simpa using this.symm
    subst e1
    exact SeqAt.RcNeAt.lists (e := fun _ => true) hl hl' rfl (by omega) (fun j j1 _ => absurd j1 (by simp)) X.prog X.w _ _ ⟨.bl _, H, I, rfl, q⟩
  | cons z zs =>
    have e1 : its.length ≠ 0 := by have := r1.length; simp at this; omega
    exact SeqAt.RcNeAt.lists_lengths hl hl' (by simpa using e1) (by omega) X.prog X.w _ _ ⟨.bl _, H, I, rfl, q⟩
end
mutual
theorem wq_wide : ∀ d : PyData, d.hasDict = false → wq d ≤ Gx.wide d
  | .none, _ => by simp [wq, Gx.wide]
  | .bool _, _ => by simp [wq, Gx.wide]
  | .int _, _ => by simp [wq, Gx.wide]
  | .str _, _ => by simp [wq, Gx.wide]
  | .list xs, h => by
    have := wqAll_wide xs (by simpa [PyData.hasDict] using h)
    simp only [wq, Gx.wide]; omega
  | .tuple xs, h => by
    have := wqAll_wide xs (by simpa [PyData.hasDict] using h)
    simp only [wq, Gx.wide]; omega
  | .dict _, h => by simp [PyData.hasDict] at h
theorem wqAll_wide : ∀ ds : List PyData, PyData.hasDictAll ds = false → wq.wqAll ds ≤ wide.wideAll ds
  | [], _ => Nat.le_refl _
  | d :: ds, h => by
    simp only [PyData.hasDictAll, Bool.or_eq_false_iff] at h
    have h1 := wq_wide d h.1
    have h2 := wqAll_wide ds h.2
    simp only [wq.wqAll, wide.wideAll]; omega
end
end Gx

set_option Elab.async false
set_option linter.all false
set_option maxRecDepth 100000
set_option maxHeartbeats 4000000
namespace K26
open PySem PySem.Spec PyProof.Rows L2 Evl Gx
abbrev s_NoRow___init : Stmt := inClass (topS 3) 0
theorem sc_NoRow___init : FnScope ["self", "index"] ["self", "index"] (defScope s_NoRow___init) := ⟨rfl, rfl, rfl, by decide +kernel, rfl, by decide +kernel, by decide +kernel⟩
abbrev s_kept : Stmt := topS 24
theorem sc_kept : FnScope ["condition", "contents", "said", "row", "index", "word"] ["condition", "contents"] (defScope s_kept) := ⟨rfl, rfl, rfl, by decide +kernel, rfl, by decide +kernel, by decide +kernel⟩
abbrev s_l_heard : Stmt := topS 46
theorem sc_l_heard : FnScope ["_law_condition", "_law_contents", "e"] ["_law_condition", "_law_contents"] (defScope s_l_heard) := ⟨rfl, rfl, rfl, by decide +kernel, rfl, by decide +kernel, by decide +kernel⟩
abbrev s_l_due : Stmt := topS 47
theorem sc_l_due : FnScope ["_law_condition", "_law_contents", "_law_found", "_law_row", "_law_at"] ["_law_condition", "_law_contents"] (defScope s_l_due) := ⟨rfl, rfl, rfl, by decide +kernel, rfl, by decide +kernel, by decide +kernel⟩
theorem lc_enumL {K : PySem.W.Frag} {a : Addr} {xs : List V} {g : TG} {tt : TT} {te : TE} {vs : List Nat} {σ : L2.St} {H1 : Hp} {D : Addr} {Qd : Hp → Prop} (Pv : Nat → Hp → Prop) (h0 : Pv 0 (upd H1 D (.lst []))) (hl : ∀ i H, i ≤ xs.length → Pv i H → SqL K H a xs)
    (hs : ∀ i x T H, xs[i]? = some x → Pv i H → H T = none → g (.ref T) (wipe σ vs) (upd H T (.tup [.int (i : Nat), x])) fun σ2 H2 => wipe σ2 vs = wipe σ vs ∧ tt σ2 H2 fun b H3 =>
      if b = true then te σ2 H3 fun y H4 => ∃ acc, H4 D = some (.lst acc) ∧ acc.length < sizeLine ∧ Pv (i + 1) (upd H4 D (.lst (acc ++ [y]))) else Pv (i + 1) H3) (hd : ∀ H, Pv xs.length H → Qd H) :
    ∃ W : Nat → Nat → Hp → Prop, (∃ m, W 0 m (upd H1 D (.lst []))) ∧ ∀ i m H, W i m H →
      ((Ite K a).stop i H ∧ Qd H) ∨ ((Ite K a).go i H ∧ ∃ Nx : Hp → Prop, (∀ H', Nx H' → ∃ m', m' < m ∧ W (i + 1) m' H') ∧ ∀ x H', (Ite K a).yld i H x H' → g x (wipe σ vs) H' fun σ2 H2 => wipe σ2 vs = wipe σ vs ∧ tt σ2 H2 fun b H3 =>
        if b = true then te σ2 H3 fun y H4 => ∃ acc, H4 D = some (.lst acc) ∧ acc.length < sizeLine ∧ Nx (upd H4 D (.lst (acc ++ [y]))) else Nx H3) := by
  refine ⟨fun i m H => m = xs.length - i ∧ i ≤ xs.length ∧ Pv i H, ⟨xs.length, by simp, Nat.zero_le _, h0⟩, ?_⟩
  rintro i m H ⟨rfl, hi, p⟩
  have q := hl i H hi p
  by_cases hlt : i < xs.length
  · refine .inr ⟨⟨xs, xs[i], q, List.getElem?_eq_getElem hlt⟩, Pv (i + 1), fun H' p' => ⟨_, by omega, rfl, hlt, p'⟩, ?_⟩
    rintro v H' ⟨T, x, rfl, nT, rfl, hx⟩
    exact hs i x T H (hx xs q) p nT
  · have e : i = xs.length := by omega
    subst e
    exact .inl ⟨⟨xs, q, Nat.le_refl _⟩, hd H p⟩
/-- the indexes of the rows that are kept -/
def yesAt : Nat → List Str → List Int
  | _, [] => []
  | n, w :: ws => if w = "yes" then (n : Int) :: yesAt (n + 1) ws else yesAt (n + 1) ws
theorem yesAt_app : ∀ (n : Nat) (a b : List Str), yesAt n (a ++ b) = yesAt n a ++ yesAt (n + a.length) b
  | n, [], b => rfl
  | n, w :: a, b => by
    rw [List.cons_append, yesAt, yesAt, yesAt_app (n + 1) a b, List.length_cons, show n + 1 + a.length = n + (a.length + 1) by omega]
    split <;> rfl
theorem yesAt_len : ∀ (n : Nat) (a : List Str), (yesAt n a).length ≤ a.length
  | _, [] => Nat.le_refl _
  | n, w :: a => by
    rw [yesAt, List.length_cons]
    have := yesAt_len (n + 1) a
    split
    · rw [List.length_cons]; omega
    · omega
theorem yesAt_bd : ∀ (n : Nat) (a : List Str), ∀ i ∈ yesAt n a, 0 ≤ i ∧ i < n + a.length
  | _, [], i, h => by cases h
  | n, w :: a, i, h => by
    rw [yesAt] at h
    rw [List.length_cons]
    split at h
    · rcases List.mem_cons.mp h with rfl | h
      · omega
      · have := yesAt_bd (n + 1) a i h; omega
    · have := yesAt_bd (n + 1) a i h; omega
/-- the first that errs -/
structure FirstErr (ws : List Str) (j : Nat) : Prop where
  at_ : ws[j]? = some "error"
  before : ∀ m z, m < j → ws[m]? = some z → z ≠ "error"
theorem first_err : ∀ (ws : List Str), ("error" : Str) ∈ ws → ∃ j, FirstErr ws j
  | [], h => by cases h
  | w :: ws, h => by
    by_cases e : w = "error"
    · subst e
      exact ⟨0, rfl, fun m z hm => absurd hm (Nat.not_lt_zero _)⟩
    · have h' : ("error" : Str) ∈ ws := by
        rcases List.mem_cons.mp h with q | q
        · exact absurd q.symm e
        · exact q
      obtain ⟨j, j1, j2⟩ := first_err ws h'
      refine ⟨j + 1, by simpa using j1, fun m z hm hz => ?_⟩
      cases m with
      | zero => simp at hz; subst hz; exact e
      | succ m => exact j2 m z (by omega) (by simpa using hz)
theorem FirstErr.uniq {ws : List Str} {i j : Nat} (h : FirstErr ws i) (h' : FirstErr ws j) : i = j := by
  rcases Nat.lt_trichotomy i j with l | l | l
  · exact absurd rfl (h'.before i _ l h.at_)
  · exact l
  · exact absurd rfl (h.before j _ l h'.at_)
theorem rowAt_ex' {H H' : Hp} {r : Addr} {ns : List Str} {R : Str → V} (h : RowAt H r ns R) (e : Ex H H') : RowAt H' r ns R := by
  obtain ⟨kvs, h1, h2⟩ := h
  exact ⟨kvs, e _ _ h1, h2⟩
/-- what a condition answers at the rows -/
def Said (H : Hp) (ns : List Str) (c : Cnd) : List Addr → List Str → Prop := Paired fun r w => ∃ R, RowAt H r ns R ∧ w = (Gx.run R [] c).1
theorem Said.to {H H' : Hp} {ns : List Str} {c : Cnd} {rs : List Addr} {ws : List Str} (h : Said H ns c rs ws) (e : Ex H H') : Said H' ns c rs ws :=
  L2.Paired.mapP h fun r w ⟨R, h1, h2⟩ => ⟨R, rowAt_ex' h1 e, h2⟩
def WishI (C : Addr) (E : XK) (H : Hp) (j : Nat) : Prop := ∀ d H', Ex H H' → H' d = some (.xd [("index", .int (j : Nat))]) → E (.ref C) (some d) H'
structure KeptPre (K : PySem.W.Frag) (H : Hp) (v : V) (l : Addr) (ns : List Str) (c : Cnd) (rs : List Addr) (ws : List Str) : Prop where
  at_ : CndAt K H v c
  ok : c.ok ns
  deep : c.depth < 8
  few : c.weight ≤ 16000000
  lst : SqL K H l (rs.map V.ref)
  said : Said H ns c rs ws
  short : ws.length ≤ 1000
def spKept (K : PySem.W.Frag) (C : Addr) : Sp := fun vs H Q E => ∃ v l ns c rs ws, vs = [v, .ref l] ∧ KeptPre K H v l ns c rs ws ∧
  (("error" : Str) ∉ ws → ∀ (l' : Addr) (H' : Hp), Ex H H' → H l' = none → H' l' = some (.lst ((yesAt 0 ws).map V.int)) → Q (.ref l') H') ∧
  (∀ j, FirstErr ws j → WishI C E H j)
def firstAt : List Str → Nat
  | [] => 0
  | w :: ws => if w = "error" then 0 else firstAt ws + 1
theorem firstAt_of : ∀ {ws : List Str} {j : Nat}, FirstErr ws j → firstAt ws = j
  | [], j, h => by have := h.at_; simp at this
  | w :: ws, 0, h => by
    have := h.at_
    simp at this
    rw [firstAt, if_pos this]
  | w :: ws, j + 1, h => by
    have h0 := h.before 0 w (Nat.succ_pos _) rfl
    rw [firstAt, if_neg h0, firstAt_of (j := j) ⟨by simpa using h.at_, fun m z hm hz => h.before (m + 1) z (by omega) (by simpa using hz)⟩]
theorem firstAt_le : ∀ ws : List Str, firstAt ws ≤ ws.length
  | [] => Nat.le_refl _
  | w :: ws => by
    rw [firstAt, List.length_cons]
    have := firstAt_le ws
    split <;> omega
def HeardAt (H H' : Hp) (t : Addr) (ws : List Str) : Prop :=
  (("error" : Str) ∉ ws ∧ ∃ l' : Addr, H l' = none ∧ H' t = some (.tup [.str "told", .ref l']) ∧ H' l' = some (.lst ((yesAt 0 ws).map V.int))) ∨
  (("error" : Str) ∈ ws ∧ H' t = some (.tup [.str "row", .int (firstAt ws : Nat)]))
theorem heard_k {H : Hp} {Q : VK} {ws : List Str} (k : ∀ t H', Ex H H' → HeardAt H H' t ws → Q (.ref t) H') :
    (("error" : Str) ∉ ws → ∀ (t l' : Addr) (H' : Hp), Ex H H' → H l' = none → H' t = some (.tup [.str "told", .ref l']) → H' l' = some (.lst ((yesAt 0 ws).map V.int)) → Q (.ref t) H') ∧
    (∀ j, FirstErr ws j → ∀ (t : Addr) (H' : Hp), Ex H H' → H' t = some (.tup [.str "row", .int (j : Nat)]) → Q (.ref t) H') :=
  ⟨fun he t l' H' ex nl ht hl => k t H' ex (.inl ⟨he, l', nl, ht, hl⟩), fun j hj t H' ex ht => k t H' ex (.inr ⟨List.mem_of_getElem? hj.at_, by rw [firstAt_of hj]; exact ht⟩)⟩
/-- what is heard, what is due -/
def spHeard (K : PySem.W.Frag) : Sp := fun vs H Q _ => ∃ v l ns c rs ws, vs = [v, .ref l] ∧ KeptPre K H v l ns c rs ws ∧ ∀ t H', Ex H H' → HeardAt H H' t ws → Q (.ref t) H'
section
variable {P : Program} {w : World} {K : PySem.W.Frag} {mg : Str → Option Value} {base : Heap} {C fI : Addr} {fdI : FuncData}
theorem ok_initR (e_NoRow : Err K mg "NoRow" "NoRow.__init__" "index" ["self", "index"] s_NoRow___init C fI fdI) :
    FnOk P w K mg base CX0 1 fI fdI ["self", "index"] (spInit C "index") := by
  refine e_NoRow.fn.ok sc_NoRow___init (fun vs H Q E h => ?_) (fun cdv A outer s H vs Q E hr h => ?_)
  · obtain ⟨a, v, rfl, _⟩ := h
    rfl
  · obtain ⟨a, v, rfl, ha, k⟩ := h
    refine ⟨_, (pss_one (ps_ost (pv 0) (pv 1))), ?_⟩
    exact ⟨_, rfl, _, rfl, a, C, rfl, e_NoRow.T, e_NoRow.no, .inl ⟨ha, k⟩⟩
theorem ok_kept {f : Addr} {fd : FuncData} (D : Def K mg "kept" s_kept f fd ["condition", "contents"]) (bi : Bi mg)
    (e_NoRow : Err K mg "NoRow" "NoRow.__init__" "index" ["self", "index"] s_NoRow___init C fI fdI)
    (GI_NoRow : FnOk P w K mg base CX0 1 fI fdI ["self", "index"] (spInit C "index"))
    {f_answer : Addr} {fd_answer : FuncData} (D_answer : Def K mg "answer" s_answer f_answer fd_answer ["condition", "row"])
    (G_answer : FnOk P w K mg base CX0 24 f_answer fd_answer ["condition", "row"] (spAnswer K)) :
    FnOk P w K mg base (L2.CX P w) 25 f fd ["condition", "contents"] (spKept K C) := by
  refine D.fn.okX sc_kept (fun vs H Q E h => ?_) (fun cdv A outer s0 H vs Q E hr h => ?_)
  · obtain ⟨v, l, ns, c, rs, ws, rfl, _⟩ := h
    rfl
  · obtain ⟨v, l, ns, c, rs, ws, rfl, pre, kq, ke⟩ := h
    refine ⟨_, (pss_cons (ps_setLc (i := 2) (own := [("row", 3)]) rfl sc_kept.nd rfl rfl (sw_true rfl rfl rfl (by decide +kernel)) (pi_list (pv 1)) (blkOk_by (N := ["condition", "contents", "said", "row", "index", "word"]) (sc := defScope s_kept) (by decide +kernel)) (fun _ _ _ _ _ => (pg_name (i := 3) sc_kept.nd rfl (Or.inl rfl))) (fun _ _ _ _ _ => pts_nil) (fun _ _ _ _ _ => (pe_call G_answer (hr.mono (by first | decide | omega)) rfl D_answer.mg D_answer.fn.kp D_answer.bd .nil pass0 (pa_cons (pv 0) (pa_cons (pv 3) pa_nil)))))
  (pss_cons (ps_if (pt_cmpR op_in_seq pe_str (pv 2) (by rfl))
    (pss_one (L2.ps_raise rfl (L2.takes_of rfl rfl rfl rfl) (pmk_oex e_NoRow.T e_NoRow.iC e_NoRow.tI GI_NoRow (hr.mono (by first | decide | omega)) e_NoRow.bd .nil pass0 rfl e_NoRow.gC (pa_cons (pe_bm PySem.F.plainAttrs_list PySem.F.slot_list_index PySem.F.type_list_index mt_index (pv 2) (pa_cons pe_str pa_nil)) pa_nil))))
    pss_nil)
  (pss_one (ps_ret (pe_lc (own := [("index", 4), ("word", 5)]) (g := gTup K 2 (gCons (gName 4) (gCons (gName 5) gNil))) rfl sc_kept.nd (pi_enum rfl bi.enumerate (pa_cons (pv 2) pa_nil)) (blkOk_by (N := ["condition", "contents", "said", "row", "index", "word"]) (sc := defScope s_kept) (by decide +kernel)) (fun _ _ _ _ _ => (pg_tup rfl (pgs_cons (pg_name (i := 4) sc_kept.nd rfl (Or.inl rfl)) (pgs_cons (pg_name (i := 5) sc_kept.nd rfl (Or.inl rfl)) pgs_nil)))) (fun _ _ _ _ _ => (pts_one (pt_cmpR op_eq (pv 5) pe_str (nomark _)))) (fun _ _ _ _ _ => (pv 4))))))), ?_⟩
    have rl : rs.length = ws.length := Paired.length pre.said
    have wl := pre.short
    refine ⟨_, rfl, l, rfl, ⟨_, pre.lst⟩, fun d nd => ?_⟩
    refine lc_list (xs := rs.map V.ref) (fun j H' => Ex H H' ∧ H' d = some (.lst ((ws.take j).map V.str))) ?_ (fun j H' _ z => ex_l z.1 pre.lst) ?_ ?_
    · exact ⟨Ex.new nd, by rw [upd_same]; rfl⟩
    · rintro j z H' hj ⟨e1, hd⟩
      obtain ⟨r, hrj, rfl⟩ : ∃ r, rs[j]? = some r ∧ z = V.ref r := by
        rw [List.getElem?_map] at hj
        obtain ⟨r, h1, h2⟩ := Option.map_eq_some_iff.mp hj
        exact ⟨r, h1, h2.symm⟩
      obtain ⟨wx, hw, R, hR, rfl⟩ := Gx.paired_get pre.said hrj
      have jl := (List.getElem?_eq_some_iff.mp hrj).1
      refine ⟨rfl, _, rfl, _, rfl, v, c, ns, R, r, rfl, pre.at_.to e1, pre.ok, pre.deep, pre.few, rowAt_ex' hR e1, fun H2 e2 => ⟨_, e2 _ _ hd, ?_, (e1.trans e2).mut nd, ?_⟩⟩
      · rw [List.length_map, List.length_take]
        exact Nat.lt_of_le_of_lt (show min j ws.length ≤ 1000 by omega) (by decide)
      · rw [upd_same, takeS hw, List.map_append]; rfl
    · rintro H1 ⟨e1, hd⟩
      rw [List.length_map, rl, List.take_length] at hd
      refine ⟨_, rfl, d, ws.map V.str, rfl, .inl (SqL.of hd), rfl, flat_strs ws, _, rfl, ?_⟩
      by_cases he : ("error" : Str) ∈ ws
      · obtain ⟨j, hj⟩ := first_err ws he
        refine if_t (by rw [if_neg Bool.false_ne_true, inV_strs]; exact decide_eq_true he) ?_
        refine raise_read (v := .int (j : Nat)) (H1 := H1) (fun Q q => ?_) (fun d' H' ex hd' => ke j hj d' H' (e1.trans ex) hd')
        refine ⟨_, rfl, .inl ⟨rfl, _, SqL.of hd⟩, d, _, .str "error", j, .str "error", rfl, rfl, SqL.of hd, rfl, flat_strs ws, ?_, by decide +kernel, fun m z' hm hz => ?_, q⟩
        · rw [List.getElem?_map, hj.at_]; rfl
        · rw [List.getElem?_map] at hz
          obtain ⟨wz, h1, h2⟩ := Option.map_eq_some_iff.mp hz
          subst h2
          have := hj.before m wz hm h1
          show (wz == "error") = false
          exact beq_false_of_ne this
      · refine if_f (by rw [if_neg Bool.false_ne_true, inV_strs]; exact decide_eq_false he) ?_
        refine ⟨_, rfl, d, ws.map V.str, rfl, SqL.of hd, fun d2 nd2 => ?_⟩
        refine lc_enumL (xs := ws.map V.str) (fun j H' => Ex H1 H' ∧ H' d2 = some (.lst ((yesAt 0 (ws.take j)).map V.int))) ?_ (fun j H' _ z => SqL.of (z.1 _ _ hd)) ?_ ?_
        · exact ⟨Ex.new nd2, by rw [upd_same]; rfl⟩
        · rintro j z T H' hj ⟨e2, hd2⟩ nT
          obtain ⟨wx, hw, rfl⟩ : ∃ wx, ws[j]? = some wx ∧ z = V.str wx := by
            rw [List.getElem?_map] at hj
            obtain ⟨r, h1, h2⟩ := Option.map_eq_some_iff.mp hj
            exact ⟨r, h1, h2.symm⟩
          have jl := (List.getElem?_eq_some_iff.mp hw).1
          have x3 := Ex.new (o := .tup [.int (j : Nat), .str wx]) nT
          have hT : SqT K (upd H' T (.tup [.int (j : Nat), .str wx])) T [.int (j : Nat), .str wx] := SqT.of upd_same
          generalize upd H' T (.tup [.int (j : Nat), .str wx]) = H3 at x3 hT ⊢
          refine ⟨T, _, rfl, hT, rfl, _, _, rfl, _, _, rfl, rfl, rfl, _, rfl, rfl, _, rfl, ?_⟩
          have ta : yesAt 0 (ws.take (j + 1)) = yesAt 0 (ws.take j) ++ (if wx = "yes" then [((j : Nat) : Int)] else []) := by
            rw [takeS hw, yesAt_app, List.length_take, Nat.min_eq_left (by omega), Nat.zero_add, yesAt, yesAt]
          by_cases hy : wx = "yes"
          · refine if_t (decide_eq_true (congrArg V.str hy)) ⟨_, rfl, _, x3 _ _ hd2, ?_, (e2.trans x3).mut nd2, ?_⟩
            · rw [List.length_map]
              have := yesAt_len 0 (ws.take j)
              rw [List.length_take] at this
              exact Nat.lt_of_le_of_lt (show _ ≤ 1000 by omega) (by decide)
            · rw [upd_same, ta, if_pos hy, List.map_append]; rfl
          · refine if_f (decide_eq_false fun z => hy (V.str.inj z)) ⟨e2.trans x3, ?_⟩
            rw [ta, if_neg hy, List.append_nil]
            exact x3 _ _ hd2
        · rintro H2 ⟨e2, hd2⟩
          rw [List.length_map, List.take_length] at hd2
          exact kq he d2 H2 (e1.trans e2) (none_back e1 nd2) hd2
theorem ok_heard {f : Addr} {fd : FuncData} (D : Def K mg "_law_heard" s_l_heard f fd ["_law_condition", "_law_contents"]) (bi : Bi mg)
    (e_NoRow : Err K mg "NoRow" "NoRow.__init__" "index" ["self", "index"] s_NoRow___init C fI fdI)
    {f_kept : Addr} {fd_kept : FuncData} (D_kept : Def K mg "kept" s_kept f_kept fd_kept ["condition", "contents"])
    (G_kept : FnOk P w K mg base (L2.CX P w) 25 f_kept fd_kept ["condition", "contents"] (spKept K C)) :
    FnOk P w K mg base CX0 26 f fd ["_law_condition", "_law_contents"] (spHeard K) := by
  refine D.fn.ok sc_l_heard (fun vs H Q E h => ?_) (fun cdv A outer s0 H vs Q E hr h => ?_)
  · obtain ⟨v, l, ns, c, rs, ws, rfl, _⟩ := h
    rfl
  · obtain ⟨v, l, ns, c, rs, ws, rfl, pre, kk⟩ := h
    obtain ⟨kt, kr⟩ := heard_k kk
    refine ⟨_, (pss_one (ps_try_fst (ts := _) rfl rfl sc_l_heard.nd (i := 2) rfl rfl ⟨rfl, by decide, .inl e_NoRow.gC⟩ (fun W pn xe tk _ =>
    (pss_one (ps_ret (pe_tup (pa_cons pe_str (pa_cons (pe_callS G_kept (hr.mono (by first | decide | omega)) rfl D_kept.mg D_kept.fn.kp D_kept.bd (fun σ => passAt tk σ) (pa_cons (pv 0) (pa_cons (pv 1) pa_nil))) pa_nil)))))) (fun a oe cls d pn hz hf =>
    (pss_one (ps_ret (pe_tup (pa_cons pe_str (pa_cons (pe_xf e_NoRow.xf e_NoRow.no hz hf (pv 2)) pa_nil)))))))), ?_⟩
    refine ⟨_, rfl, _, rfl, v, l, ns, c, rs, ws, rfl, pre, fun he l' H' ex nl hl' => ⟨sz2, fun t nt => ?_⟩, fun j hj d H' ex hd => ⟨e_NoRow.te, fun x nx => ?_⟩⟩
    · exact kt he t l' _ (ex.trans (Ex.new nt)) nl upd_same ((Ex.new nt) _ _ hl')
    · refine field_read (fun Q q => ⟨_, rfl, q⟩) hd ⟨sz2, fun t nt => ?_⟩
      exact kr j hj t _ (ex_upd ex nt) upd_same
end
end K26

set_option Elab.async false
set_option linter.all false
set_option maxRecDepth 100000
set_option maxHeartbeats 4000000
namespace K26
open PySem PySem.Spec PyProof.Rows L2 Evl Gx
section
variable {P : Program} {w : World} {K : PySem.W.Frag} {mg : Str → Option Value} {base : Heap}
theorem ok_due {f : Addr} {fd : FuncData} (D : Def K mg "_law_due" s_l_due f fd ["_law_condition", "_law_contents"]) (bi : Bi mg)
    {f_l_listened : Addr} {fd_l_listened : FuncData} (D_l_listened : Def K mg "_law_listened" s_l_listened f_l_listened fd_l_listened ["_law_condition", "_law_row", "_law_spot"])
    (G_l_listened : FnOk P w K mg base CX0 10 f_l_listened fd_l_listened ["_law_condition", "_law_row", "_law_spot"] (spListened K 8)) :
    FnOk P w K mg base CX0 11 f fd ["_law_condition", "_law_contents"] (spHeard K) := by
  refine D.fn.ok sc_l_due (fun vs H Q E h => ?_) (fun cdv A outer s0 H vs Q E hr h => ?_)
  · obtain ⟨v, l, ns, c, rs, ws, rfl, _⟩ := h
    rfl
  · obtain ⟨v, l, ns, c, rs, ws, rfl, pre, kk⟩ := h
    obtain ⟨kt, kr⟩ := heard_k kk
    refine ⟨_, (pss_cons (ps_set (i := 2) sc_l_due.nd rfl (Or.inr rfl) (pe_lc (own := [("_law_row", 3)]) rfl sc_l_due.nd (pi_list (pv 1)) (blkOk_by (N := ["_law_condition", "_law_contents", "_law_found", "_law_row", "_law_at"]) (sc := defScope s_l_due) (by decide +kernel)) (fun _ _ _ _ _ => (pg_name (i := 3) sc_l_due.nd rfl (Or.inl rfl))) (fun _ _ _ _ _ => pts_nil) (fun _ _ _ _ _ => (pe_ix (ix_tupK (K := K) rfl) (pe_call G_l_listened (hr.mono (by first | decide | omega)) rfl D_l_listened.mg D_l_listened.fn.kp D_l_listened.bd .nil pass0 (pa_cons (pv 0) (pa_cons (pv 3) (pa_cons (pe_tup pa_nil) pa_nil)))) pe_int (fun _ _ => rfl)))))
  (pss_cons (ps_if (pt_cmpR op_in_seq pe_str (pv 2) (by rfl))
    (pss_one (ps_ret (pe_tup (pa_cons pe_str (pa_cons (pe_bm PySem.F.plainAttrs_list PySem.F.slot_list_index PySem.F.type_list_index mt_index (pv 2) (pa_cons pe_str pa_nil)) pa_nil)))))
    pss_nil)
  (pss_one (ps_ret (pe_tup (pa_cons pe_str (pa_cons (pe_lc (own := [("_law_at", 4)]) rfl sc_l_due.nd (pi_range1 rfl bi.range (pa_cons (pe_callB call_len_seq (by rfl) bi.len bt_len (pa_cons (pv 2) pa_nil)) pa_nil)) (blkOk_by (N := ["_law_condition", "_law_contents", "_law_found", "_law_row", "_law_at"]) (sc := defScope s_l_due) (by decide +kernel)) (fun _ _ _ _ _ => (pg_name (i := 4) sc_l_due.nd rfl (Or.inl rfl))) (fun _ _ _ _ _ => (pts_one (pt_cmpR op_eq (pe_ix (ix_listK (K := K) rfl) (pv 2) (pv 4) (fun _ _ => rfl)) pe_str (nomark _)))) (fun _ _ _ _ _ => (pv 4))) pa_nil))))))), ?_⟩
    have rl : rs.length = ws.length := Paired.length pre.said
    have wl := pre.short
    have few := pre.few
    have deep := pre.deep
    refine ⟨_, rfl, l, rfl, ⟨_, pre.lst⟩, fun d nd => ?_⟩
    refine lc_list (xs := rs.map V.ref) (fun j H' => Ex H H' ∧ H' d = some (.lst ((ws.take j).map V.str))) ?_ (fun j H' _ z => ex_l z.1 pre.lst) ?_ ?_
    · exact ⟨Ex.new nd, by rw [upd_same]; rfl⟩
    · rintro j z H' hj ⟨e1, hd⟩
      obtain ⟨r, hrj, rfl⟩ : ∃ r, rs[j]? = some r ∧ z = V.ref r := by
        rw [List.getElem?_map] at hj
        obtain ⟨r, h1, h2⟩ := Option.map_eq_some_iff.mp hj
        exact ⟨r, h1, h2.symm⟩
      obtain ⟨wx, hw, R, hR, rfl⟩ := Gx.paired_get pre.said hrj
      have jl := (List.getElem?_eq_some_iff.mp hrj).1
      refine ⟨rfl, _, rfl, _, rfl, by decide, fun t0 n0 => ?_⟩
      have x0 := Ex.new (o := .tup []) n0
      refine ⟨v, c, ns, R, t0, [], r, rfl, (pre.at_.to e1).to x0, by omega, ⟨pre.ok, SqT.of upd_same, rowAt_ex' (rowAt_ex' hR e1) x0, pre.few, by simp; omega⟩, fun tl hl more H2 e2 ht hh hen => ?_⟩
      have x2 := x0.trans e2
      refine ⟨tl, _, 0, _, rfl, rfl, ht, rfl, _, x2 _ _ hd, ?_, (e1.trans x2).mut nd, ?_⟩
      · rw [List.length_map, List.length_take]
        exact Nat.lt_of_le_of_lt (show min j ws.length ≤ 1000 by omega) (by decide)
      · rw [upd_same, takeS hw, List.map_append]; rfl
    · rintro H1 ⟨e1, hd⟩
      rw [List.length_map, rl, List.take_length] at hd
      refine ⟨_, rfl, d, ws.map V.str, rfl, .inl (SqL.of hd), rfl, flat_strs ws, _, rfl, ?_⟩
      by_cases he : ("error" : Str) ∈ ws
      · obtain ⟨j, hj⟩ := first_err ws he
        refine if_t (by rw [if_neg Bool.false_ne_true, inV_strs]; exact decide_eq_true he) ?_
        refine ⟨_, rfl, .inl ⟨rfl, _, SqL.of hd⟩, d, _, .str "error", j, .str "error", rfl, rfl, SqL.of hd, rfl, flat_strs ws, ?_, by decide +kernel, fun m z' hm hz => ?_, ⟨sz2, fun t nt => kr j hj t _ (ex_upd e1 nt) upd_same⟩⟩
        · rw [List.getElem?_map, hj.at_]; rfl
        · rw [List.getElem?_map] at hz
          obtain ⟨wz, h1, h2⟩ := Option.map_eq_some_iff.mp hz
          subst h2
          have := hj.before m wz hm h1
          show (wz == "error") = false
          exact beq_false_of_ne this
      · refine if_f (by rw [if_neg Bool.false_ne_true, inV_strs]; exact decide_eq_false he) ?_
        refine ⟨_, rfl, d, _, rfl, .inl (SqL.of hd), (ws.length : Int), by rw [List.length_map], by omega, by omega, fun d2 nd2 => ?_⟩
        refine lc_range (lo := 0) (n := ws.length) (fun j H' => Ex H1 H' ∧ H' d2 = some (.lst ((yesAt 0 (ws.take j)).map V.int))) ?_ ?_ ?_
        · exact ⟨Ex.new nd2, by rw [upd_same]; rfl⟩
        · rintro j H' jl ⟨e2, hd2⟩
          obtain ⟨wx, hw⟩ : ∃ wx, ws[j]? = some wx := ⟨ws[j], List.getElem?_eq_getElem jl⟩
          refine ⟨rfl, _, rfl, _, rfl, d, ws.map V.str, (0 + (j : Nat) : Int), .str wx, rfl, rfl, SqL.of (e2 _ _ hd), ?_, rfl, _, rfl, ?_⟩
          · rw [show (0 : Int) + (j : Nat) = (j : Nat) by omega]
            exact atI_nat (by rw [List.getElem?_map, hw]; rfl)
          have ta : yesAt 0 (ws.take (j + 1)) = yesAt 0 (ws.take j) ++ (if wx = "yes" then [((j : Nat) : Int)] else []) := by
            rw [takeS hw, yesAt_app, List.length_take, Nat.min_eq_left (by omega), Nat.zero_add, yesAt, yesAt]
          by_cases hy : wx = "yes"
          · refine if_t (decide_eq_true (congrArg V.str hy)) ⟨_, rfl, _, hd2, ?_, e2.mut nd2, ?_⟩
            · rw [List.length_map]
              have := yesAt_len 0 (ws.take j)
              rw [List.length_take] at this
              exact Nat.lt_of_le_of_lt (show _ ≤ 1000 by omega) (by decide)
            · rw [upd_same, ta, if_pos hy, List.map_append, show (0 : Int) + (j : Nat) = (j : Nat) by omega]; rfl
          · refine if_f (decide_eq_false fun z => hy (V.str.inj z)) ⟨e2, ?_⟩
            rw [ta, if_neg hy, List.append_nil]
            exact hd2
        · rintro H2 ⟨e2, hd2⟩
          rw [List.take_length] at hd2
          exact ⟨sz2, fun t nt => kt he t d2 _ ((e1.trans e2).trans (Ex.new nt)) (none_back e1 nd2) upd_same ((Ex.new nt) _ _ hd2)⟩
end
end K26

set_option Elab.async false
set_option linter.all false
set_option maxRecDepth 100000
set_option maxHeartbeats 8000000
namespace K26
open PySem PySem.Spec PyProof.Rows L2 Evl Gx
abbrev s_law : Stmt := topS 48
theorem sc_law : FnScope ["_law_script", "_law_bag_here", "_law_turn", "_law_columns", "_law_every", "_law_condition", "_law_contents", "_law_k", "_law_row", "_law_said", "_law_due_here", "_law_again", "_law_found"] ["_law_script"] (defScope s_law) := ⟨rfl, rfl, rfl, by decide +kernel, rfl, by decide +kernel, by decide +kernel⟩
def nmL : List Str := ["n", "m"]
theorem nm_nm : ∀ n ∈ nmL, Nm n := by
  have : ∀ n ∈ nmL, PyData.strOk n = true ∧ (reprText n).length ≤ 100 := by decide +kernel
  exact fun n h => ⟨(this n h).1, (this n h).2⟩
theorem nm_told : Nm "told" := ⟨by decide +kernel, by decide +kernel⟩
theorem nm_row : Nm "row" := ⟨by decide +kernel, by decide +kernel⟩
def heardD (ws : List Str) : PyData := if ("error" : Str) ∈ ws then .tuple [.str "row", .int (firstAt ws : Nat)] else .tuple [.str "told", .list ((yesAt 0 ws).map PyData.int)]
theorem HeardAt.dp {K : PySem.W.Frag} {H H' H2 : Hp} {t : Addr} {ws : List Str} (h : HeardAt H H' t ws) (e : Ex H' H2) : Dp K H2 (.ref t) (heardD ws) := by
  unfold heardD
  rcases h with ⟨he, l', _, ht, hl⟩ | ⟨he, ht⟩
  · rw [if_neg he]
    exact .tup (SqT.of (e _ _ ht)) (.cons (.str _) (.cons (.lst (SqL.of (e _ _ hl)) (dpAll_ints _)) .nil))
  · rw [if_pos he]
    exact .tup (SqT.of (e _ _ ht)) (.cons (.str _) (.cons (.int _) .nil))
theorem heardD_fit {ws : List Str} (h : ws.length ≤ 1000) : Fit (heardD ws) 2 2000000 := by
  unfold heardD
  have f0 := firstAt_le ws
  split
  · exact (fit_tup (fit_cons (fit_str nm_row) (fit_cons (fit_int (near_of (i := (firstAt ws : Nat)) ⟨by omega, by omega⟩)) (fit_nil 0)))).mono (by decide) (by decide)
  · have f1 := fit_lst (fit_ints (yesAt 0 ws) fun i hi => by have := yesAt_bd 0 ws i hi; omega)
    have f2 := yesAt_len 0 ws
    exact (fit_tup (fit_cons ((fit_str nm_told).mono (n' := 1) (by decide) (Nat.le_refl _)) (fit_cons f1 (fit_nil 1)))).mono (by decide) (by omega)
/-- rows as data -/
theorem rows_q {K : PySem.W.Frag} {H : Hp} : ∀ rs : List Addr, (∀ r ∈ rs, KeyRow H r nmL) → ∃ ds : List PyData, DqAll K H (rs.map V.ref) ds ∧ PyData.showableAll ds = true ∧ PyData.depthAll ds ≤ 1 ∧ wq.wqAll ds ≤ 5000 * rs.length
  | [], _ => ⟨[], .nil, rfl, Nat.zero_le _, Nat.le_refl _⟩
  | r :: rs, h => by
    obtain ⟨ds, q1, q2, q3, q4⟩ := rows_q (K := K) rs fun z hz => h z (List.mem_cons_of_mem _ hz)
    obtain ⟨kvs, k1, k2, k3⟩ := h r List.mem_cons_self
    obtain ⟨p1, p2, p3, p4⟩ := row_q (K := K) (H := H) k2 nm_nm k3
    have kl : kvs.length = 2 := by
      have := congrArg List.length k2
      rw [List.length_map, List.length_map] at this
      exact this
    refine ⟨.dict (rowD kvs) :: ds, .cons (.dct k1 p1) q1, ?_, ?_, ?_⟩
    · simp only [PyData.showableAll, PyData.showable, p2, q2, Bool.and_self]
    · simp only [PyData.depthAll, PyData.depth]; omega
    · simp only [wq.wqAll, wq, List.length_cons]; omega
theorem said_ex {H : Hp} {ns : List Str} (c : Cnd) : ∀ rs : List Addr, (∀ r ∈ rs, KeyRow H r ns) → ∃ ws : List Str, Said H ns c rs ws
  | [], _ => ⟨[], .nil⟩
  | r :: rs, h => by
    obtain ⟨ws, q⟩ := said_ex c rs fun z hz => h z (List.mem_cons_of_mem _ hz)
    obtain ⟨R, hR⟩ := row_of (h r List.mem_cons_self)
    exact ⟨_ :: ws, .cons ⟨R, hR, rfl⟩ q⟩
theorem keyRow_lst {H : Hp} {r l : Addr} {ks : List Str} {xs ys : List V} (h : KeyRow H r ks) (hl : H l = some (.lst xs)) : KeyRow (upd H l (.lst ys)) r ks := h.toB ExB.put hl
def spLaw (K : PySem.W.Frag) : Sp := fun vs H Q _ => ∃ (a : Addr) (ns : List Int), vs = [.ref a] ∧ SqL K H a (ns.map V.int) ∧ ns.length ≤ 63 ∧ ∀ H', Q (.bl true) H'
section
variable {P : Program} {w : World} {K : PySem.W.Frag} {mg : Str → Option Value} {base : Heap} {C : Addr}
variable {f_l_bag f_l_take f_l_one f_l_column f_l_tree f_l_listened f_l_every_row f_l_alike f_l_heard f_l_due f_kept : Addr}
  {fd_l_bag fd_l_take fd_l_one fd_l_column fd_l_tree fd_l_listened fd_l_every_row fd_l_alike fd_l_heard fd_l_due fd_kept : FuncData}
theorem ok_law {f : Addr} {fd : FuncData} (D : Def K mg "law" s_law f fd ["_law_script"]) (bi : Bi mg)
    (D_l_bag : Def K mg "_law_bag" s_l_bag f_l_bag fd_l_bag ["_law_script"])
    (G_l_bag : FnOk P w K mg base CX0 1 f_l_bag fd_l_bag ["_law_script"] (spBag K))
    (D_l_take : Def K mg "_law_take" s_l_take f_l_take fd_l_take ["_law_bag_here", "_law_many"])
    (G_l_take : FnOk P w K mg base CX0 1 f_l_take fd_l_take ["_law_bag_here", "_law_many"] spTake)
    (D_l_one : Def K mg "_law_one" s_l_one f_l_one fd_l_one ["_law_bag_here", "_law_things"])
    (G_l_one : FnOk P w K mg base CX0 2 f_l_one fd_l_one ["_law_bag_here", "_law_things"] (spOne K))
    (D_l_column : Def K mg "_law_column" s_l_column f_l_column fd_l_column ["_law_bag_here", "_law_name"])
    (G_l_column : FnOk P w K mg base CX0 2 f_l_column fd_l_column ["_law_bag_here", "_law_name"] (spColumn K))
    (D_l_tree : Def K mg "_law_tree" s_l_tree f_l_tree fd_l_tree ["_law_bag_here", "_law_names", "_law_many", "_law_deep"])
    (G_l_tree : FnOk P w K mg base CX0 12 f_l_tree fd_l_tree ["_law_bag_here", "_law_names", "_law_many", "_law_deep"] (spTree K 6))
    (D_l_listened : Def K mg "_law_listened" s_l_listened f_l_listened fd_l_listened ["_law_condition", "_law_row", "_law_spot"])
    (G_l_listened : FnOk P w K mg base CX0 10 f_l_listened fd_l_listened ["_law_condition", "_law_row", "_law_spot"] (spListened K 8))
    (D_l_every_row : Def K mg "_law_every_row" s_l_every_row f_l_every_row fd_l_every_row ["_law_columns"])
    (G_l_every_row : FnOk P w K mg base CX0 3 f_l_every_row fd_l_every_row ["_law_columns"] (spEvery K))
    (D_l_alike : Def K mg "_law_alike" s_l_alike f_l_alike fd_l_alike ["_law_found", "_law_due_here"])
    (G_l_alike : FnQ P w K mg base CX0 1 f_l_alike fd_l_alike ["_law_found", "_law_due_here"] (spAlike K))
    (D_l_heard : Def K mg "_law_heard" s_l_heard f_l_heard fd_l_heard ["_law_condition", "_law_contents"])
    (G_l_heard : FnOk P w K mg base CX0 26 f_l_heard fd_l_heard ["_law_condition", "_law_contents"] (spHeard K))
    (D_l_due : Def K mg "_law_due" s_l_due f_l_due fd_l_due ["_law_condition", "_law_contents"])
    (G_l_due : FnOk P w K mg base CX0 11 f_l_due fd_l_due ["_law_condition", "_law_contents"] (spHeard K))
    (D_kept : Def K mg "kept" s_kept f_kept fd_kept ["condition", "contents"])
    (G_kept : FnOk P w K mg base (L2.CX P w) 25 f_kept fd_kept ["condition", "contents"] (spKept K C)) :
    FnQ P w K mg base CX0 27 f fd ["_law_script"] (spLaw K) := by
  refine fnq_ok D.fn sc_law (fun vs H Q E h => ?_) (fun cdv A outer s0 H vs Q E hr qu h => ?_)
  · obtain ⟨a, ns, rfl, _⟩ := h
    rfl
  · obtain ⟨a, ns, rfl, ha, hl, k⟩ := h
    have hu64 := hr.units
    have hu := hu_of hr
    have hu2 : (A.deeper (envOfC "law" (defScope s_law) s0.heap.objs.size f cdv)).units + 200 < cLine := by have := hr.un; omega
    refine ⟨_, (pss_cons (ps_set (i := 1) sc_law.nd rfl (Or.inr rfl) (pe_call G_l_bag (hr.mono (by first | decide | omega)) rfl D_l_bag.mg D_l_bag.fn.kp D_l_bag.bd .nil pass0 (pa_cons (pv 0) pa_nil)))
  (pss_cons (ps_for PassesOwn.never rfl (pi_range1 rfl bi.range (pa_cons pe_int pa_nil)) (pg_name (i := 2) sc_law.nd rfl (Or.inl rfl))
    (pss_cons (ps_set (i := 3) sc_law.nd rfl (Or.inl rfl) (pe_lst (pa_cons (pe_call G_l_column (hr.mono (by first | decide | omega)) rfl D_l_column.mg D_l_column.fn.kp D_l_column.bd .nil pass0 (pa_cons (pv 1) (pa_cons pe_str pa_nil))) (pa_cons (pe_call G_l_column (hr.mono (by first | decide | omega)) rfl D_l_column.mg D_l_column.fn.kp D_l_column.bd .nil pass0 (pa_cons (pv 1) (pa_cons pe_str pa_nil))) pa_nil))))
    (pss_cons (ps_set (i := 4) sc_law.nd rfl (Or.inr rfl) (pe_call G_l_every_row (hr.mono (by first | decide | omega)) rfl D_l_every_row.mg D_l_every_row.fn.kp D_l_every_row.bd .nil pass0 (pa_cons (pv 3) pa_nil)))
    (pss_cons (ps_set (i := 5) sc_law.nd rfl (Or.inr rfl) (pe_call G_l_tree (hr.mono (by first | decide | omega)) rfl D_l_tree.mg D_l_tree.fn.kp D_l_tree.bd .nil pass0 (pa_cons (pv 1) (pa_cons (pe_lst (pa_cons pe_str (pa_cons pe_str pa_nil))) (pa_cons (pe_op op_add pe_int (pe_call G_l_take (hr.mono (by first | decide | omega)) rfl D_l_take.mg D_l_take.fn.kp D_l_take.bd .nil pass0 (pa_cons (pv 1) (pa_cons pe_int pa_nil)))) (pa_cons pe_int pa_nil))))))
    (pss_cons (ps_setLc (i := 6) (own := [("_law_k", 7)]) rfl sc_law.nd rfl rfl (sw_true rfl rfl rfl (by decide +kernel)) (pi_range1 rfl bi.range (pa_cons (pe_call G_l_take (hr.mono (by first | decide | omega)) rfl D_l_take.mg D_l_take.fn.kp D_l_take.bd .nil pass0 (pa_cons (pv 1) (pa_cons pe_int pa_nil))) pa_nil)) (blkOk_by (N := ["_law_script", "_law_bag_here", "_law_turn", "_law_columns", "_law_every", "_law_condition", "_law_contents", "_law_k", "_law_row", "_law_said", "_law_due_here", "_law_again", "_law_found"]) (sc := defScope s_law) (by decide +kernel)) (fun _ _ _ _ _ => (pg_name (i := 7) sc_law.nd rfl (Or.inl rfl))) (fun _ _ _ _ _ => pts_nil) (fun _ _ _ _ _ => (pe_callTy call_dictD (by rfl) bi.dict bt_dict (pa_cons (pe_call G_l_one (hr.mono (by first | decide | omega)) rfl D_l_one.mg D_l_one.fn.kp D_l_one.bd .nil pass0 (pa_cons (pv 1) (pa_cons (pv 4) pa_nil))) pa_nil))))
    (Evl.pss_cut (ps_if (pt_cmpR op_eq (pe_call G_l_take (hr.mono (by first | decide | omega)) rfl D_l_take.mg D_l_take.fn.kp D_l_take.bd .nil pass0 (pa_cons (pv 1) (pa_cons pe_int pa_nil))) pe_int (nomark _))
      (pss_one (ps_setLc (i := 6) (own := [("_law_row", 8)]) rfl sc_law.nd rfl rfl (sw_true rfl rfl rfl (by decide +kernel)) (pi_list (pv 6)) (blkOk_by (N := ["_law_script", "_law_bag_here", "_law_turn", "_law_columns", "_law_every", "_law_condition", "_law_contents", "_law_k", "_law_row", "_law_said", "_law_due_here", "_law_again", "_law_found"]) (sc := defScope s_law) (by decide +kernel)) (fun _ _ _ _ _ => (pg_name (i := 8) sc_law.nd rfl (Or.inl rfl))) (fun _ _ _ _ _ => (pts_one (pt_cmpR op_ne (pe_ix (ix_tupK (K := K) rfl) (pe_call G_l_listened (hr.mono (by first | decide | omega)) rfl D_l_listened.mg D_l_listened.fn.kp D_l_listened.bd .nil pass0 (pa_cons (pv 5) (pa_cons (pv 8) (pa_cons (pe_tup pa_nil) pa_nil)))) pe_int (fun _ _ => rfl)) pe_str (nomark _)))) (fun _ _ _ _ _ => (pv 8))))
      pss_nil)
    (pss_cons (ps_par (i := 9) (j := 10) rfl sc_law.nd rfl rfl (by decide) rfl rfl (pa_cons (pe_callB (call_reprQ qu hu2) (by rfl) bi.repr bt_repr (pa_cons (pe_lst (pa_cons (pv 5) (pa_cons (pv 6) pa_nil))) pa_nil)) (pa_cons (pe_call G_l_due (hr.mono (by first | decide | omega)) rfl D_l_due.mg D_l_due.fn.kp D_l_due.bd .nil pass0 (pa_cons (pv 5) (pa_cons (pv 6) pa_nil))) pa_nil)) (by rfl))
    (pss_cons (ps_for PassesOwn.never rfl (pi_range1 rfl bi.range (pa_cons pe_int pa_nil)) (pg_name (i := 11) sc_law.nd rfl (Or.inl rfl))
      (pss_cons (ps_set (i := 12) sc_law.nd rfl (Or.inl rfl) (pe_call G_l_heard (hr.mono (by first | decide | omega)) rfl D_l_heard.mg D_l_heard.fn.kp D_l_heard.bd .nil pass0 (pa_cons (pv 5) (pa_cons (pv 6) pa_nil))))
      (pss_cons (ps_if (L2.PW.pt (pw_or (pt_not (pt_val (pe_callQ G_l_alike qu (hr.mono (by first | decide | omega)) rfl D_l_alike.mg D_l_alike.fn.kp D_l_alike.bd pass0 (pa_cons (pv 12) (pa_cons (pv 10) pa_nil))))) (pw_or1 (pt_cmpR op_ne (pe_callB (call_reprQ qu hu2) (by rfl) bi.repr bt_repr (pa_cons (pe_lst (pa_cons (pv 5) (pa_cons (pv 6) pa_nil))) pa_nil)) (pv 9) (nomark _)))))
        (pss_one (ps_ret pe_bl))
        pss_nil)
      (pss_one (ps_if (pt_val (pe_callB call_isi (by rfl) bi.isinstance bt_isinstance (pa_cons (pe_ix (ix_tupK (K := K) rfl) (pv 12) pe_int (fun _ _ => rfl)) (pa_cons (pe_bltn (v := .ty "list") rfl bi.list bt_list rfl) pa_nil))))
        (pss_one (ps_expr (pe_bm PySem.F.plainAttrs_list PySem.F.slot_list_append PySem.F.type_list_append mt_append (pe_ix (ix_tupK (K := K) rfl) (pv 12) pe_int (fun _ _ => rfl)) (pa_cons pe_non pa_nil))))
        pss_nil)))))
    (pss_one (ps_if (pt_cmpR (op_neE hu64) (pv 6) (pe_lst pa_nil) (nomark _))
      (pss_cons (ps_asg (pe_callTy call_dictD (by rfl) bi.dict bt_dict (pa_cons (pe_call G_l_one (hr.mono (by first | decide | omega)) rfl D_l_one.mg D_l_one.fn.kp D_l_one.bd .nil pass0 (pa_cons (pv 1) (pa_cons (pv 4) pa_nil))) pa_nil)) (pg_sub (pv 6) (pe_un un_neg pe_int) set_list))
      (pss_one (ps_if (pt_not (pt_val (pe_callQ G_l_alike qu (hr.mono (by first | decide | omega)) rfl D_l_alike.mg D_l_alike.fn.kp D_l_alike.bd pass0 (pa_cons (pe_call G_l_heard (hr.mono (by first | decide | omega)) rfl D_l_heard.mg D_l_heard.fn.kp D_l_heard.bd .nil pass0 (pa_cons (pv 5) (pa_cons (pv 6) pa_nil))) (pa_cons (pe_call G_l_due (hr.mono (by first | decide | omega)) rfl D_l_due.mg D_l_due.fn.kp D_l_due.bd .nil pass0 (pa_cons (pv 5) (pa_cons (pv 6) pa_nil))) pa_nil)))))
        (pss_one (ps_ret pe_bl))
        pss_nil)))
      pss_nil))))))))))
  (pss_one (ps_ret (pe_cmpR (op_eqD hu64) (pe_call G_kept (hr.mono (by first | decide | omega)) rfl D_kept.mg D_kept.fn.kp D_kept.bd .nil passL (pa_cons (pe_tup (pa_cons pe_str (pa_cons pe_str pa_nil))) (pa_cons (pe_lst pa_nil) pa_nil))) (pe_lst pa_nil) (nomark _)))))), ?_⟩
    refine ⟨_, rfl, a, ns, rfl, ha, by omega, fun b H2 x1 hb2 => ?_⟩
    refine ⟨12, rfl, by decide, by decide, for_range (n := 12) (fun i σ H' => ∃ x2 x3 x4 x5 x6 x7 x8 x9 x10 x11 x12 : Option V, σ = [some (.ref a), some (.ref b), x2, x3, x4, x5, x6, x7, x8, x9, x10, x11, x12] ∧ Bag H' b) ?_ ?_ (fun σ H' hf => ?_)⟩
    · exact ⟨_, _, _, _, _, _, _, _, _, _, _, rfl, hb2⟩
    · rintro i σ H3 hi ⟨x2, x3, x4, x5, x6, x7, x8, x9, x10, x11, x12, rfl, hb3⟩
      -- the columns, every row
      refine ⟨_, rfl, b, "n", rfl, hb3, fun cn H4 e4 hcn => ⟨_, rfl, b, "m", rfl, hb3.to e4, fun cm H5 e5 hcm => ⟨sz2, fun cl ncl => ?_⟩⟩⟩
      have x6' := Ex.new (o := .lst [cn, cm]) ncl
      have hcl : upd H5 cl (.lst [cn, cm]) cl = some (.lst [cn, cm]) := upd_same
      have hcn6 := (hcn.to e5).to x6'
      have hcm6 := hcm.to x6'
      have hb6 := ((hb3.to e4).to e5).to x6'
      generalize upd H5 cl (.lst [cn, cm]) = H6 at hcl hcn6 hcm6 hb6 ⊢
      refine ⟨_, rfl, cl, [cn, cm], nmL, rfl, SqL.of hcl, .cons hcn6 (.cons hcm6 .nil), by decide, by decide +kernel, fun ev rs0 H7 e7 hev rs0l hrs0 => ?_⟩
      have hb7 := hb6.to e7
      -- the condition
      refine ⟨_, rfl, sz2, fun nl nnl => ⟨_, rfl, b, 8, rfl, hb7.to (Ex.new nnl), by decide, by decide, fun y y0 y1 => ⟨1, y, rfl, rfl, ?_⟩⟩⟩
      have hm : ∃ m : Nat, (1 : Int) + y = m ∧ 1 ≤ m ∧ m ≤ 8 := ⟨(1 + y).toNat, by omega, by omega, by omega⟩
      obtain ⟨m, em, m1, m8⟩ := hm
      refine ⟨b, nl, nmL, m, 4, congrArg (fun z : Int => [V.ref b, .ref nl, .int z, .int 4]) em, hb7.to (Ex.new nnl), SqL.of upd_same, by decide, by decide, m1, by omega, by decide, by decide, fun v c H8 e8 ok dp wt hv => ?_⟩
      have x78 := (Ex.new (o := .lst [.str "n", .str "m"]) nnl).trans e8
      have hb8 := hb7.to x78
      have hev8 := x78 _ _ hev
      have hrs8 : ∀ r ∈ rs0, KeyRow H8 r nmL := fun r hr => (hrs0 r hr).to x78
      have cw : c.weight ≤ 1700000 := Nat.le_trans wt (by have := Nat.mul_le_mul_right (W 4) m8; exact Nat.le_trans this (by decide))
      -- the contents
      refine ⟨_, rfl, b, 13, rfl, hb8, by decide, by decide, fun y2 y20 y21 => ?_⟩
      refine ⟨y2, rfl, by omega, by omega, fun d nd => ?_⟩
      refine lc_range (lo := 0) (n := y2.toNat) (fun j H' => Ex H8 H' ∧ ∃ cs : List Addr, H' d = some (.lst (cs.map V.ref)) ∧ cs.length = j ∧ ∀ r ∈ cs, KeyRow H' r nmL) ?_ ?_ ?_
      · exact ⟨Ex.new nd, [], upd_same, rfl, by simp⟩
      · rintro j H' hj ⟨e9, cs, hd, hcl', hcs⟩
        refine ⟨rfl, _, rfl, _, rfl, b, ev, rs0.map V.ref, rfl, hb8.to e9, SqL.of (e9 _ _ hev8), by rw [List.length_map]; exact rs0l.1, by rw [List.length_map]; have := rs0l.2; omega, fun x hx => ?_⟩
        obtain ⟨r, hr', rfl⟩ := List.mem_map.mp hx
        obtain ⟨kvs, k1, k2, k3⟩ := (hrs8 r hr').to e9
        refine ⟨r, kvs, rfl, Rd.of k1, fun p np => ?_⟩
        have xp := Ex.new (o := .dK kvs) np
        have kp : ∀ z ∈ cs ++ [p], KeyRow (upd H' p (.dK kvs)) z nmL := fun z hz => by
          rcases List.mem_append.mp hz with g | g
          · exact (hcs z g).to xp
          · rw [List.mem_singleton] at g; subst g; exact ⟨kvs, upd_same, k2, k3⟩
        generalize upd H' p (.dK kvs) = H9 at xp kp ⊢
        refine ⟨cs.map V.ref, xp _ _ hd, ?_, (e9.trans xp).mut nd, cs ++ [p], by rw [upd_same, List.map_append]; rfl, by simp [hcl'], fun z hz => keyRow_lst (kp z hz) (xp _ _ hd)⟩
        rw [List.length_map]
        exact Nat.lt_of_le_of_lt (show cs.length ≤ 1000 by omega) (by decide)
      · rintro H9 ⟨e9, cs, hd, hcl', hcs⟩
        have c12 : cs.length ≤ 12 := by omega
        have hb9 := hb8.to e9
        -- some of them
        refine ⟨fun σ H' => ∃ (y7 y8 : Option V) (lc : Addr) (rs : List Addr), σ = [some (.ref a), some (.ref b), some (.int (0 + (i : Int))), some (.ref cl), some (.ref ev), some v, some (.ref lc), y7, y8, x9, x10, x11, x12] ∧ Ex H8 H' ∧ H8 lc = none ∧
          H' lc = some (.lst (rs.map V.ref)) ∧ rs.length ≤ 12 ∧ ∀ r ∈ rs, KeyRow H' r nmL, ?_, fun σ H10 mm => ?_⟩
        · refine ⟨_, rfl, b, 2, rfl, hb9, by decide, by decide, fun y3 y30 y31 => ⟨rfl, _, rfl, ?_⟩⟩
          refine if_d (fun _ => ?_) (fun _ => ⟨_, _, d, cs, rfl, e9, nd, hd, c12, hcs⟩)
          refine ⟨_, rfl, d, rfl, ⟨_, SqL.of hd⟩, fun d2 nd2 => ?_⟩
          refine lc_list (xs := cs.map V.ref) (fun j H' => Ex H9 H' ∧ ∃ rs : List Addr, H' d2 = some (.lst (rs.map V.ref)) ∧ rs.length ≤ j ∧ ∀ r ∈ rs, KeyRow H' r nmL) ?_ (fun j H' _ z => SqL.of (z.1 _ _ hd)) ?_ ?_
          · exact ⟨Ex.new nd2, [], upd_same, Nat.le_refl _, by simp⟩
          · rintro j z H' hj ⟨e10, rs, hd2, rl, hrs⟩
            obtain ⟨r, hrj, rfl⟩ : ∃ r, cs[j]? = some r ∧ z = V.ref r := by
              rw [List.getElem?_map] at hj
              obtain ⟨r, h1, h2⟩ := Option.map_eq_some_iff.mp hj
              exact ⟨r, h1, h2.symm⟩
            have jl := (List.getElem?_eq_some_iff.mp hrj).1
            have kr := (hcs r (List.mem_of_getElem? hrj)).to e10
            obtain ⟨R, hR⟩ := row_of kr
            refine ⟨rfl, _, rfl, _, rfl, by decide, fun t0 n0 => ?_⟩
            have x0 := Ex.new (o := .tup []) n0
            refine ⟨v, c, nmL, R, t0, [], r, rfl, ((hv.to e9).to e10).to x0, by omega, ⟨ok, SqT.of upd_same, rowAt_ex' hR x0, by omega, by simp; omega⟩, fun tl hl more H11 e11 ht hh hen => ?_⟩
            have x11 := x0.trans e11
            refine ⟨tl, _, 0, _, rfl, rfl, ht, rfl, rfl, _, rfl, ?_⟩
            refine if_nd (fun _ => ⟨_, rfl, rs.map V.ref, x11 _ _ hd2, ?_, (e10.trans x11).mut nd2, rs ++ [r], by rw [upd_same, List.map_append]; rfl, by rw [List.length_append, List.length_singleton]; omega, fun q hq => ?_⟩)
              (fun _ => ⟨e10.trans x11, rs, x11 _ _ hd2, by omega, fun q hq => (hrs q hq).to x11⟩)
            · rw [List.length_map]
              exact Nat.lt_of_le_of_lt (show rs.length ≤ 1000 by omega) (by decide)
            · refine keyRow_lst ?_ (x11 _ _ hd2)
              rcases List.mem_append.mp hq with g | g
              · exact (hrs q g).to x11
              · rw [List.mem_singleton] at g; subst g; exact kr.to x11
          · rintro H10 ⟨e10, rs, hd2, rl, hrs⟩
            rw [List.length_map] at rl
            exact ⟨_, _, d2, rs, rfl, e9.trans e10, none_back e9 nd2, hd2, by omega, hrs⟩
        · obtain ⟨y7, y8, lc, rs, rfl, e10, nlc, hlc, rl, hrs⟩ := mm
          have f0 := fit_cnd nm_nm c ok
          have sh0 := fit_sh f0 (by omega)
          have nd0 : c.data.hasDict = false := PyData.hasDict_of_canLay _ (SeqAt.canLay_of_shaped sh0)
          have wc := wq_wide c.data nd0
          have wcf := f0.wide
          have dcf := f0.deep
          have preK : ∀ (Hz : Hp) (rs' : List Addr) (ws' : List Str), Ex H8 Hz → Hz lc = some (.lst (rs'.map V.ref)) → Said Hz nmL c rs' ws' → rs'.length ≤ 12 → KeptPre K Hz v lc nmL c rs' ws' := fun Hz rs' ws' ex hz sd r12 =>
            ⟨hv.to ex, ok, by omega, by omega, SqL.of hz, sd, by have := Paired.length sd; omega⟩
          obtain ⟨ws, hS⟩ := said_ex c rs hrs
          have wsl : ws.length ≤ 1000 := by have := Paired.length hS; omega
          obtain ⟨ds, q1, q2, q3, q4⟩ := rows_q (K := K) rs hrs
          have qs : (PyData.list [c.data, .list ds]).showable = true := by simp only [PyData.showable, PyData.showableAll, f0.show_, q2, Bool.and_self]
          have qd : (PyData.list [c.data, .list ds]).depth ≤ 100 := by simp only [PyData.depth, PyData.depthAll]; omega
          have qw : wq (.list [c.data, .list ds]) ≤ 10000000 := by simp only [wq, wq.wqAll]; omega
          have hdq : ∀ (Hz : Hp) (L : Addr), Ex H10 Hz → Hz L = some (.lst [v, .ref lc]) → Dq K Hz (.ref L) (.list [c.data, .list ds]) := fun Hz L ex hz =>
            .lst (SqL.of hz) (.cons ((hv.to (e10.trans ex)).dp.dq) (.cons (.lst (SqL.of (ex _ _ hlc)) (q1.to ex)) .nil))
          -- what is said, what is due
          refine ⟨_, rfl, _, rfl, sz2, fun L0 nL0 => ⟨.ref L0, _, rfl, hdq _ L0 (Ex.new nL0) upd_same, qs, qd, qw, ?_⟩⟩
          have xL0 := Ex.new (o := .lst [v, .ref lc]) nL0
          refine ⟨_, rfl, _, rfl, v, lc, nmL, c, rs, ws, rfl, preK _ rs ws (e10.trans xL0) (xL0 _ _ hlc) (hS.to xL0) rl, fun t H11 e11 h11 => ⟨_, _, rfl, ?_⟩⟩
          have e1011 := xL0.trans e11
          have hfit := heardD_fit wsl
          have hsh := fit_sh hfit (by decide)
          refine ⟨2, rfl, by decide, by decide, for_range (n := 2) (fun j σ H' => ∃ y7 y8 y11 y12 : Option V, σ = [some (.ref a), some (.ref b), some (.int (0 + (i : Int))), some (.ref cl), some (.ref ev), some v, some (.ref lc), y7, y8, some (.str (PyData.list [c.data, .list ds]).shown), some (.ref t), y11, y12] ∧ Ex H11 H') ?_ ?_ (fun σ H12 hf2 => ?_)⟩
          · exact ⟨_, _, _, _, rfl, Ex.refl H11⟩
          · rintro j σ H12 hj ⟨y7, y8, y11, y12, rfl, e12⟩
            have e1012 := e1011.trans e12
            refine ⟨_, rfl, _, rfl, v, lc, nmL, c, rs, ws, rfl, preK _ rs ws (e10.trans e1012) (e1012 _ _ hlc) (hS.to e1012) rl, fun t2 H13 e13 h13 => ?_⟩
            refine ⟨_, rfl, _, rfl, .ref t2, .ref t, heardD ws, rfl, h13.dp (Ex.refl H13), h11.dp (e12.trans e13), hsh, hfit.show_, Nat.le_trans hfit.wide (by decide), ⟨_, rfl, ?_⟩⟩
            have e1013 := e1012.trans e13
            refine ⟨_, rfl, _, rfl, sz2, fun L1 nL1 => ⟨.ref L1, _, rfl, hdq _ L1 (e1013.trans (Ex.new nL1)) upd_same, qs, qd, qw, _, rfl, rfl, _, rfl, if_nd (fun h => absurd rfl h) (fun _ => ?_)⟩⟩
            have xL1 := Ex.new (o := .lst [v, .ref lc]) nL1
            have e1113 := e12.trans (e13.trans xL1)
            rcases h13 with ⟨he, l', nl', ht2, hl2⟩ | ⟨he, ht2⟩
            · have ht3 := xL1 _ _ ht2
              have hl3 := xL1 _ _ hl2
              generalize upd H13 L1 (.lst [v, .ref lc]) = H14 at e1113 ht3 hl3 ⊢
              refine ⟨_, rfl, t2, _, 1, .ref l', rfl, rfl, SqT.of ht3, rfl, .ref l', .ty "list", .type "list", .type "list", true, rfl, .ty "list", .base (.lst hl3), kit_ty (by decide +kernel), _, rfl, if_t rfl ?_⟩
              refine ⟨_, rfl, t2, _, 1, .ref l', rfl, rfl, SqT.of ht3, rfl, .inl ⟨rfl, _, SqL.of hl3⟩, l', _, .non, rfl, rfl, hl3, ?_, ?_⟩
              · rw [List.length_map]
                have := yesAt_len 0 ws
                exact Nat.lt_of_le_of_lt (show _ ≤ 1000 by omega) (by decide)
              · exact ⟨_, _, _, _, rfl, e1113.mut (none_back e12 nl')⟩
            · have ht3 := xL1 _ _ ht2
              generalize upd H13 L1 (.lst [v, .ref lc]) = H14 at e1113 ht3 ⊢
              refine ⟨_, rfl, t2, _, 1, .int (firstAt ws : Nat), rfl, rfl, SqT.of ht3, rfl, .int (firstAt ws : Nat), .ty "list", .type "int", .type "list", false, rfl, .ty "list", .base (.int _), kit_ty (by decide +kernel), _, rfl, if_f rfl ?_⟩
              exact ⟨_, _, _, _, rfl, e1113⟩
          · obtain ⟨y7, y8, y11, y12, rfl, e12⟩ := hf2
            have e1012 := e1011.trans e12
            have hlc12 := e1012 _ _ hlc
            have x812 := e10.trans e1012
            refine ⟨_, rfl, by decide, fun e ne => ⟨lc, e, rs.map V.ref, rfl, rfl, SqL.of ((Ex.new ne) _ _ hlc12), SqL.of upd_same, _, rfl, ?_⟩⟩
            have xe := Ex.new (o := .lst []) ne
            have x813 := x812.trans xe
            have hlc13 := xe _ _ hlc12
            have hrs13 : ∀ r ∈ rs, KeyRow (upd H12 e (.lst [])) r nmL := fun r hr' => (hrs r hr').to (e1012.trans xe)
            generalize upd H12 e (.lst []) = H13 at x813 hlc13 hrs13 ⊢
            refine if_nd (fun hne => ?_) (fun _ => ⟨_, _, _, _, _, _, _, _, _, _, _, rfl, hb8.to x813⟩)
            have hb13 := hb8.to x813
            refine ⟨_, rfl, _, rfl, b, ev, rs0.map V.ref, rfl, hb13, SqL.of (x813 _ _ hev8), by rw [List.length_map]; exact rs0l.1, by rw [List.length_map]; have := rs0l.2; omega, fun x hx => ?_⟩
            obtain ⟨r, hr', rfl⟩ := List.mem_map.mp hx
            obtain ⟨kvs, k1, k2, k3⟩ := (hrs8 r hr').to x813
            refine ⟨r, kvs, rfl, Rd.of k1, fun p np => ?_⟩
            have xp := Ex.new (o := .dK kvs) np
            have hlc14 := xp _ _ hlc13
            have kp : ∀ z, (z ∈ rs ∨ z = p) → KeyRow (upd H13 p (.dK kvs)) z nmL := fun z hz => by
              rcases hz with g | g
              · exact (hrs13 z g).to xp
              · subst g; exact ⟨kvs, upd_same, k2, k3⟩
            have x814 := x813.trans xp
            generalize upd H13 p (.dK kvs) = H14 at x814 hlc14 kp ⊢
            have pos : 0 < rs.length := List.length_pos_iff.mpr fun z => hne (by rw [z]; rfl)
            refine ⟨_, rfl, 1, rfl, lc, rs.map V.ref, -1, rs.length - 1, rfl, rfl, hlc14, ?_, ?_⟩
            · unfold ixN
              rw [if_neg (by decide), List.length_map, if_pos (by omega)]
              congr 1
              omega
            have eset : (rs.map V.ref).set (rs.length - 1) (V.ref p) = (rs.set (rs.length - 1) p).map V.ref := by rw [List.map_set]
            rw [eset]
            have x815 := x814.mut (o := .lst ((rs.set (rs.length - 1) p).map V.ref)) nlc
            have hlc15 : upd H14 lc (.lst ((rs.set (rs.length - 1) p).map V.ref)) lc = some (.lst ((rs.set (rs.length - 1) p).map V.ref)) := upd_same
            have hrs15 : ∀ z ∈ rs.set (rs.length - 1) p, KeyRow (upd H14 lc (.lst ((rs.set (rs.length - 1) p).map V.ref))) z nmL := fun z hz =>
              keyRow_lst (kp z (List.mem_or_eq_of_mem_set hz)) hlc14
            have rl2 : (rs.set (rs.length - 1) p).length ≤ 12 := by rw [List.length_set]; exact rl
            generalize rs.set (rs.length - 1) p = rs2 at x815 hlc15 hrs15 rl2 ⊢
            generalize upd H14 lc (.lst (rs2.map V.ref)) = H15 at x815 hlc15 hrs15 ⊢
            obtain ⟨ws2, hS2⟩ := said_ex c rs2 hrs15
            have wsl2 : ws2.length ≤ 1000 := by have := Paired.length hS2; omega
            have hfit2 := heardD_fit wsl2
            refine ⟨_, rfl, _, rfl, v, lc, nmL, c, rs2, ws2, rfl, preK _ rs2 ws2 x815 hlc15 hS2 rl2, fun t3 H16 e16 h16 => ?_⟩
            refine ⟨_, rfl, _, rfl, v, lc, nmL, c, rs2, ws2, rfl, preK _ rs2 ws2 (x815.trans e16) (e16 _ _ hlc15) (hS2.to e16) rl2, fun t4 H17 e17 h17 => ?_⟩
            refine ⟨.ref t3, .ref t4, heardD ws2, rfl, h16.dp e17, h17.dp (Ex.refl H17), fit_sh hfit2 (by decide), hfit2.show_, Nat.le_trans hfit2.wide (by decide), ⟨_, rfl, if_f rfl ?_⟩⟩
            exact ⟨_, _, _, _, _, _, _, _, _, _, _, rfl, hb8.to (x815.trans (e16.trans e17))⟩
    · obtain ⟨_, _, _, _, _, _, _, _, _, _, _, rfl, hbz⟩ := hf
      refine ⟨sz2, fun t nt => ⟨by decide, fun e ne => ?_⟩⟩
      have xe := Ex.new (o := .lst []) ne
      refine ⟨.ref t, e, [], .leaf (.always "error"), [], [], rfl, ⟨⟨t, rfl, SqT.of (xe _ _ upd_same)⟩, by rw [Cnd.ok]; exact w_err, by rw [Cnd.depth]; decide, by rw [Cnd.weight]; decide, SqL.of upd_same, .nil, Nat.zero_le _⟩, fun _ l' H1 ex nl hl' => ?_, fun j hj => absurd hj.at_ (by simp)⟩
      refine ⟨by decide, fun e2 ne2 => ⟨.list [], .list [], .lst (SqL.of ((Ex.new ne2) _ _ hl')) .nil, .lst (SqL.of upd_same) .nil, rfl, rfl, ?_⟩⟩
      exact k _
end
end K26

set_option Elab.async false
set_option linter.all false
set_option maxRecDepth 100000
set_option maxHeartbeats 8000000
namespace K26
open PySem PySem.Spec PyProof.Rows L2 Evl Gx
theorem isdef_mk {K : PySem.W.Frag} {x qual : Str} {st : Stmt} {f : Addr} {oc : Value} {od : Option Addr} {kV doc pm : Value} {an : Option Addr} {cdv ct : Value} {osl : Array (Option Value)}
    (l : K.lookup f = some ⟨oc, od, .func (PySem.W.fnOf x qual (defArgs st) (defBody st) (defScope st) .none kV doc pm an cdv ct), osl⟩)
    (c : PySem.W.codeIn K cdv qual = true) (k : PySem.W.keepIn K (.ref f) = true) : IsDef K x qual st f := ⟨_, _, _, _, _, _, _, _, _, l, c, k⟩
theorem cls_mk {K : PySem.W.Frag} {C : Addr} {nm q : Str} {N : Addr} {bs bm : List Value} {sn : List Str} {sub : List Value} {ab : Bool} {col : Option Bool} {dd : Option Addr} {k0 k1 k2 k3 k5 : Option Value}
    (l : K.lookup C = some (excClassObj nm q C N bs bm true sn sub ab col dd k0 k1 k2 k3 k5 "ValueError.__new__")) (v : HandSPX.refsVE bm = true) :
    ∃ nm q N bs bm sn sub ab col dd k0 k1 k2 k3 k5, K.lookup C = some (excClassObj nm q C N bs bm true sn sub ab col dd k0 k1 k2 k3 k5 "ValueError.__new__") ∧ HandSPX.refsVE bm = true :=
  ⟨_, _, _, _, _, _, _, _, _, _, _, _, _, _, _, l, v⟩
/-- the error class's own clause takes it -/
theorem exm_own {K : PySem.W.Frag} {C : Addr} (h1 : PySem.W.subIn K (.ref C) (.type "BaseException") = some true) (h2 : PySem.W.isClsIn K C = true)
    (h3 : PySem.W.typeIn K (.ref C) = some (.type "type")) (h4 : PySem.W.subIn K (.ref C) (.ref C) = some true) : PySem.W.exmOne K (.ref C) (.ref C) = some true := by
  have g : (PySem.W.clsIn K C).isSome = true := h2
  have b : ((PySem.W.clsIn K C).isSome && PySem.W.typeIn K (.ref C) == some (.type "type")) = true := by rw [g, h3]; rfl
  have a : (PySem.W.subIn K (.ref C) (.type "BaseException") == some true) = true := by rw [h1]; rfl
  show (if (PySem.W.subIn K (.ref C) (.type "BaseException") == some true) = true then
    (if ((PySem.W.clsIn K C).isSome && PySem.W.typeIn K (.ref C) == some (.type "type")) = true then PySem.W.subIn K (.ref C) (.ref C) else none) else none) = some true
  rw [if_pos a, if_pos b]
  exact h4
theorem err_mk {K : PySem.W.Frag} {h : Heap} {mg : Str → Option Value} {x qual fl : Str} {ps : List Str} {st : Stmt} {C fI : Addr} (X : K.In h) (G : h.Ns mainGlobals mg)
    (aC : PySem.W.nsIn K mainGlobals x = some (some (.ref C)))
    (cC : ∃ nm q N bs bm sn sub ab col dd k0 k1 k2 k3 k5, K.lookup C = some (excClassObj nm q C N bs bm true sn sub ab col dd k0 k1 k2 k3 k5 "ValueError.__new__") ∧ HandSPX.refsVE bm = true)
    (sa : PySem.W.findIn K (.ref C) "__setattr__" = some (some (.builtin "object.__setattr__")))
    (ga : PySem.W.findIn K (.ref C) "__getattribute__" = some (some (.builtin "BaseException.__getattribute__")))
    (gg : PySem.W.findIn K (.ref C) "__getattr__" = some none) (no : PySem.W.findIn K (.ref C) fl = some none)
    (iC : PySem.W.findIn K (.ref C) "__init__" = some (some (.ref fI))) (tI : PySem.W.typeIn K (.ref fI) = some (.type "function"))
    (kC : PySem.W.keepIn K (.ref C) = true) (eC : PySem.W.subIn K (.ref C) (.type "BaseException") = some true) (tC : PySem.W.typeIn K (.ref C) = some (.type "type"))
    (hC : PySem.W.hasDictIn K C = true) (oC : PySem.W.isClsIn K C = true) (sC : PySem.W.subIn K (.ref C) (.ref C) = some true)
    (d : IsDef K "__init__" qual st fI)
    (hb : ∀ (kV doc pm : Value) (an : Option Addr) (cdv ct : Value) (us : List Value), us.length = ps.length →
      bindArgs (PySem.W.fnOf "__init__" qual (defArgs st) (defBody st) (defScope st) .none kV doc pm an cdv ct) ⟨us, []⟩ = pure (ps.zip us)) :
    ∃ fd, Err K mg x qual fl ps st C fI fd := by
  obtain ⟨fd, F⟩ := d.fn
  exact ⟨fd, ⟨cC, sa, eC, tC, kC⟩, PySem.W.mg_of X G aC, iC, tI, no, ⟨ga, gg, eC, hC⟩, exm_own eC oC tC sC, F, F.binds hb⟩
theorem conT_mk {K : PySem.W.Frag} {h : Heap} {mg : Str → Option Value} {x : Str} {a : Addr} {xs : List V} {dd : Option Addr} {its : Array Value} {n : Nat} {sl : Array (Option Value)}
    (X : K.In h) (G : h.Ns mainGlobals mg) (aC : PySem.W.nsIn K mainGlobals x = some (some (.ref a))) (l : K.lookup a = some ⟨.type "tuple", dd, .seq its n, sl⟩)
    (v : Vals xs its.toList) (sz : its.size ≤ sizeLine) : ConT K mg x a xs := ⟨PySem.W.mg_of X G aC, fun H => .inr ⟨_, its, n, l, rfl, rfl, sz, v⟩⟩
theorem conD_mk {K : PySem.W.Frag} {w : World} {h : Heap} {mg : Str → Option Value} {x : Str} {a : Addr} {xs : List (Str × Str)} {es : Array DictEntry} {n : Nat}
    (X : K.In h) (G : h.Ns mainGlobals mg) (aC : PySem.W.nsIn K mainGlobals x = some (some (.ref a))) (l : K.lookup a = some { cls := .type "dict", data := .dict es n })
    (q : PySem.W.KeysLit w.params es.toList) (v : ∀ p ∈ xs, ∃ e t, es.toList.find? (fun z => z.key.isStr p.1) = some e ∧ e.val = .str p.2 t) : ConD K w mg x a xs :=
  ⟨PySem.W.mg_of X G aC, fun p hp => by
    obtain ⟨e, t, h1, h2⟩ := v p hp
    refine ⟨es, n, .str p.2 t, l, q, ?_, t, rfl⟩
    unfold PySem.W.nsIn
    rw [l]
    simp only [h1, h2]⟩
theorem all_ok {P : Program} {w : World} {K : PySem.W.Frag} {h : Heap} {mg : Str → Option Value} {fa f_is_integer f_goal_of f_steps_on f_column_of f_agrees f_asks_answer f_test_answer f_leaf_answer f_answer f_kept f_l_bag f_l_take f_l_alike f_l_one f_l_number f_l_step f_l_test f_l_leaf f_l_small f_l_split f_l_tree f_l_column f_l_values f_l_every_row f_l_longer_rows f_l_led f_l_so f_l_told f_l_parts f_l_listened f_l_heard f_l_due f_law C_Errs fI_Errs C_NoRow fI_NoRow C_Asker f_Asker___init f_Asker_said f_Asker__node_said f_Asker__case_said f_Asker__first_said a_BELOW a_LEVEL a_ABOVE a_NODES a_OPPOSITES a_DECIDES : Addr} (X : K.In h) (G : h.Ns mainGlobals mg) (hfa : mg "law" = some (.ref fa))
    (a_is_integer : PySem.W.nsIn K mainGlobals "is_integer" = some (some (.ref f_is_integer))) (d_is_integer : IsDef K "is_integer" "is_integer" s_is_integer f_is_integer)
    (a_goal_of : PySem.W.nsIn K mainGlobals "_goal_of" = some (some (.ref f_goal_of))) (d_goal_of : IsDef K "_goal_of" "_goal_of" s_goal_of f_goal_of)
    (a_steps_on : PySem.W.nsIn K mainGlobals "steps_on" = some (some (.ref f_steps_on))) (d_steps_on : IsDef K "steps_on" "steps_on" s_steps_on f_steps_on)
    (a_column_of : PySem.W.nsIn K mainGlobals "column_of" = some (some (.ref f_column_of))) (d_column_of : IsDef K "column_of" "column_of" s_column_of f_column_of)
    (a_agrees : PySem.W.nsIn K mainGlobals "_agrees" = some (some (.ref f_agrees))) (d_agrees : IsDef K "_agrees" "_agrees" s_agrees f_agrees)
    (a_asks_answer : PySem.W.nsIn K mainGlobals "_asks_answer" = some (some (.ref f_asks_answer))) (d_asks_answer : IsDef K "_asks_answer" "_asks_answer" s_asks_answer f_asks_answer)
    (a_test_answer : PySem.W.nsIn K mainGlobals "test_answer" = some (some (.ref f_test_answer))) (d_test_answer : IsDef K "test_answer" "test_answer" s_test_answer f_test_answer)
    (a_leaf_answer : PySem.W.nsIn K mainGlobals "leaf_answer" = some (some (.ref f_leaf_answer))) (d_leaf_answer : IsDef K "leaf_answer" "leaf_answer" s_leaf_answer f_leaf_answer)
    (a_answer : PySem.W.nsIn K mainGlobals "answer" = some (some (.ref f_answer))) (d_answer : IsDef K "answer" "answer" s_answer f_answer)
    (a_kept : PySem.W.nsIn K mainGlobals "kept" = some (some (.ref f_kept))) (d_kept : IsDef K "kept" "kept" s_kept f_kept)
    (a_l_bag : PySem.W.nsIn K mainGlobals "_law_bag" = some (some (.ref f_l_bag))) (d_l_bag : IsDef K "_law_bag" "_law_bag" s_l_bag f_l_bag)
    (a_l_take : PySem.W.nsIn K mainGlobals "_law_take" = some (some (.ref f_l_take))) (d_l_take : IsDef K "_law_take" "_law_take" s_l_take f_l_take)
    (a_l_alike : PySem.W.nsIn K mainGlobals "_law_alike" = some (some (.ref f_l_alike))) (d_l_alike : IsDef K "_law_alike" "_law_alike" s_l_alike f_l_alike)
    (a_l_one : PySem.W.nsIn K mainGlobals "_law_one" = some (some (.ref f_l_one))) (d_l_one : IsDef K "_law_one" "_law_one" s_l_one f_l_one)
    (a_l_number : PySem.W.nsIn K mainGlobals "_law_number" = some (some (.ref f_l_number))) (d_l_number : IsDef K "_law_number" "_law_number" s_l_number f_l_number)
    (a_l_step : PySem.W.nsIn K mainGlobals "_law_step" = some (some (.ref f_l_step))) (d_l_step : IsDef K "_law_step" "_law_step" s_l_step f_l_step)
    (a_l_test : PySem.W.nsIn K mainGlobals "_law_test" = some (some (.ref f_l_test))) (d_l_test : IsDef K "_law_test" "_law_test" s_l_test f_l_test)
    (a_l_leaf : PySem.W.nsIn K mainGlobals "_law_leaf" = some (some (.ref f_l_leaf))) (d_l_leaf : IsDef K "_law_leaf" "_law_leaf" s_l_leaf f_l_leaf)
    (a_l_small : PySem.W.nsIn K mainGlobals "_law_small" = some (some (.ref f_l_small))) (d_l_small : IsDef K "_law_small" "_law_small" s_l_small f_l_small)
    (a_l_split : PySem.W.nsIn K mainGlobals "_law_split" = some (some (.ref f_l_split))) (d_l_split : IsDef K "_law_split" "_law_split" s_l_split f_l_split)
    (a_l_tree : PySem.W.nsIn K mainGlobals "_law_tree" = some (some (.ref f_l_tree))) (d_l_tree : IsDef K "_law_tree" "_law_tree" s_l_tree f_l_tree)
    (a_l_column : PySem.W.nsIn K mainGlobals "_law_column" = some (some (.ref f_l_column))) (d_l_column : IsDef K "_law_column" "_law_column" s_l_column f_l_column)
    (a_l_values : PySem.W.nsIn K mainGlobals "_law_values" = some (some (.ref f_l_values))) (d_l_values : IsDef K "_law_values" "_law_values" s_l_values f_l_values)
    (a_l_every_row : PySem.W.nsIn K mainGlobals "_law_every_row" = some (some (.ref f_l_every_row))) (d_l_every_row : IsDef K "_law_every_row" "_law_every_row" s_l_every_row f_l_every_row)
    (a_l_longer_rows : PySem.W.nsIn K mainGlobals "_law_longer_rows" = some (some (.ref f_l_longer_rows))) (d_l_longer_rows : IsDef K "_law_longer_rows" "_law_longer_rows" s_l_longer_rows f_l_longer_rows)
    (a_l_led : PySem.W.nsIn K mainGlobals "_law_led" = some (some (.ref f_l_led))) (d_l_led : IsDef K "_law_led" "_law_led" s_l_led f_l_led)
    (a_l_so : PySem.W.nsIn K mainGlobals "_law_so" = some (some (.ref f_l_so))) (d_l_so : IsDef K "_law_so" "_law_so" s_l_so f_l_so)
    (a_l_told : PySem.W.nsIn K mainGlobals "_law_told" = some (some (.ref f_l_told))) (d_l_told : IsDef K "_law_told" "_law_told" s_l_told f_l_told)
    (a_l_parts : PySem.W.nsIn K mainGlobals "_law_parts" = some (some (.ref f_l_parts))) (d_l_parts : IsDef K "_law_parts" "_law_parts" s_l_parts f_l_parts)
    (a_l_listened : PySem.W.nsIn K mainGlobals "_law_listened" = some (some (.ref f_l_listened))) (d_l_listened : IsDef K "_law_listened" "_law_listened" s_l_listened f_l_listened)
    (a_l_heard : PySem.W.nsIn K mainGlobals "_law_heard" = some (some (.ref f_l_heard))) (d_l_heard : IsDef K "_law_heard" "_law_heard" s_l_heard f_l_heard)
    (a_l_due : PySem.W.nsIn K mainGlobals "_law_due" = some (some (.ref f_l_due))) (d_l_due : IsDef K "_law_due" "_law_due" s_l_due f_l_due)
    (a_law : PySem.W.nsIn K mainGlobals "law" = some (some (.ref f_law))) (d_law : IsDef K "law" "law" s_law f_law)
    (b_len : PySem.W.nsIn K mainGlobals "len" = some none)
    (b_abs : PySem.W.nsIn K mainGlobals "abs" = some none)
    (b_max : PySem.W.nsIn K mainGlobals "max" = some none)
    (b_min : PySem.W.nsIn K mainGlobals "min" = some none)
    (b_repr : PySem.W.nsIn K mainGlobals "repr" = some none)
    (b_int : PySem.W.nsIn K mainGlobals "int" = some none)
    (b_tuple : PySem.W.nsIn K mainGlobals "tuple" = some none)
    (b_list : PySem.W.nsIn K mainGlobals "list" = some none)
    (b_dict : PySem.W.nsIn K mainGlobals "dict" = some none)
    (b_isinstance : PySem.W.nsIn K mainGlobals "isinstance" = some none)
    (b_sorted : PySem.W.nsIn K mainGlobals "sorted" = some none)
    (b_sum : PySem.W.nsIn K mainGlobals "sum" = some none)
    (b_all : PySem.W.nsIn K mainGlobals "all" = some none)
    (b_any : PySem.W.nsIn K mainGlobals "any" = some none)
    (b_range : PySem.W.nsIn K mainGlobals "range" = some none)
    (b_enumerate : PySem.W.nsIn K mainGlobals "enumerate" = some none)
    (b_zip : PySem.W.nsIn K mainGlobals "zip" = some none)
    (b_bool : PySem.W.nsIn K mainGlobals "bool" = some none)
    (b_str : PySem.W.nsIn K mainGlobals "str" = some none)
    (b_set : PySem.W.nsIn K mainGlobals "set" = some none)
    (e_Errs : ∃ fd, Err K mg "Errs" "Errs.__init__" "number" ["self", "number"] s_Errs___init C_Errs fI_Errs fd)
    (e_NoRow : ∃ fd, Err K mg "NoRow" "NoRow.__init__" "index" ["self", "index"] s_NoRow___init C_NoRow fI_NoRow fd)
    (aC_Asker : PySem.W.nsIn K mainGlobals "Asker" = some (some (.ref C_Asker))) (T0_Asker : Cls K C_Asker) (M_Asker : Mk K C_Asker f_Asker___init)
    (N_Asker_row : NoAttr K C_Asker "row")
    (N_Asker_plan : NoAttr K C_Asker "plan")
    (N_Asker_every : NoAttr K C_Asker "every")
    (N_Asker_lowers : NoAttr K C_Asker "lowers")
    (N_Asker_trail : NoAttr K C_Asker "trail")
    (am_Asker___init : PySem.W.findIn K (.ref C_Asker) "__init__" = some (some (.ref f_Asker___init))) (im_Asker___init : PySem.W.isFn K (.ref f_Asker___init) = true) (d_Asker___init : IsDef K "__init__" "Asker.__init__" s_Asker___init f_Asker___init)
    (am_Asker_said : PySem.W.findIn K (.ref C_Asker) "said" = some (some (.ref f_Asker_said))) (im_Asker_said : PySem.W.isFn K (.ref f_Asker_said) = true) (d_Asker_said : IsDef K "said" "Asker.said" s_Asker_said f_Asker_said)
    (am_Asker__node_said : PySem.W.findIn K (.ref C_Asker) "_node_said" = some (some (.ref f_Asker__node_said))) (im_Asker__node_said : PySem.W.isFn K (.ref f_Asker__node_said) = true) (d_Asker__node_said : IsDef K "_node_said" "Asker._node_said" s_Asker__node_said f_Asker__node_said)
    (am_Asker__case_said : PySem.W.findIn K (.ref C_Asker) "_case_said" = some (some (.ref f_Asker__case_said))) (im_Asker__case_said : PySem.W.isFn K (.ref f_Asker__case_said) = true) (d_Asker__case_said : IsDef K "_case_said" "Asker._case_said" s_Asker__case_said f_Asker__case_said)
    (am_Asker__first_said : PySem.W.findIn K (.ref C_Asker) "_first_said" = some (some (.ref f_Asker__first_said))) (im_Asker__first_said : PySem.W.isFn K (.ref f_Asker__first_said) = true) (d_Asker__first_said : IsDef K "_first_said" "Asker._first_said" s_Asker__first_said f_Asker__first_said)
    (C_BELOW : ConT K mg "BELOW" a_BELOW ((["<", "<=", "<>"] : List Str).map V.str))
    (C_LEVEL : ConT K mg "LEVEL" a_LEVEL ((["<=", "=", ">="] : List Str).map V.str))
    (C_ABOVE : ConT K mg "ABOVE" a_ABOVE ((["<>", ">", ">="] : List Str).map V.str))
    (C_NODES : ConT K mg "NODES" a_NODES nodesV)
    (C_OPPOSITES : ConD K w mg "OPPOSITES" a_OPPOSITES oppo)
    (C_DECIDES : ConD K w mg "DECIDES" a_DECIDES decides) :
    ∃ fd : FuncData, (∀ (s : Shared) (u : Value), BindsTo s fd ⟨[u], []⟩ [("_law_script", u)]) ∧ ∀ base : Heap, K.In base → base.Ns mainGlobals mg → FnQ P w K mg base CX0 27 fa fd ["_law_script"] (spLaw K) := by
  have n {x : Str} (z : PySem.W.nsIn K mainGlobals x = some none) : mg x = none := PySem.W.mg_none_of X G z
  have bi : Bi mg := ⟨n b_len, n b_abs, n b_max, n b_min, n b_repr, n b_int, n b_tuple, n b_list, n b_dict, n b_isinstance, n b_sorted, n b_sum, n b_all, n b_any, n b_range, n b_enumerate, n b_zip, n b_bool, n b_str, n b_set⟩
  obtain ⟨fd_is_integer, D_is_integer⟩ := def_mk (ps := ["thing"]) X G a_is_integer d_is_integer fun _ _ _ _ _ _ us hl => match us, hl with | [_], _ => rfl
  obtain ⟨fd_goal_of, D_goal_of⟩ := def_mk (ps := ["entries", "number"]) X G a_goal_of d_goal_of fun _ _ _ _ _ _ us hl => match us, hl with | [_, _], _ => rfl
  obtain ⟨fd_steps_on, D_steps_on⟩ := def_mk (ps := ["steps", "number"]) X G a_steps_on d_steps_on fun _ _ _ _ _ _ us hl => match us, hl with | [_, _], _ => rfl
  obtain ⟨fd_column_of, D_column_of⟩ := def_mk (ps := ["test"]) X G a_column_of d_column_of fun _ _ _ _ _ _ us hl => match us, hl with | [_], _ => rfl
  obtain ⟨fd_agrees, D_agrees⟩ := def_mk (ps := ["number", "sign", "other"]) X G a_agrees d_agrees fun _ _ _ _ _ _ us hl => match us, hl with | [_, _, _], _ => rfl
  obtain ⟨fd_asks_answer, D_asks_answer⟩ := def_mk (ps := ["test", "value"]) X G a_asks_answer d_asks_answer fun _ _ _ _ _ _ us hl => match us, hl with | [_, _], _ => rfl
  obtain ⟨fd_test_answer, D_test_answer⟩ := def_mk (ps := ["test", "value"]) X G a_test_answer d_test_answer fun _ _ _ _ _ _ us hl => match us, hl with | [_, _], _ => rfl
  obtain ⟨fd_leaf_answer, D_leaf_answer⟩ := def_mk (ps := ["condition", "row"]) X G a_leaf_answer d_leaf_answer fun _ _ _ _ _ _ us hl => match us, hl with | [_, _], _ => rfl
  obtain ⟨fd_answer, D_answer⟩ := def_mk (ps := ["condition", "row"]) X G a_answer d_answer fun _ _ _ _ _ _ us hl => match us, hl with | [_, _], _ => rfl
  obtain ⟨fd_kept, D_kept⟩ := def_mk (ps := ["condition", "contents"]) X G a_kept d_kept fun _ _ _ _ _ _ us hl => match us, hl with | [_, _], _ => rfl
  obtain ⟨fd_l_bag, D_l_bag⟩ := def_mk (ps := ["_law_script"]) X G a_l_bag d_l_bag fun _ _ _ _ _ _ us hl => match us, hl with | [_], _ => rfl
  obtain ⟨fd_l_take, D_l_take⟩ := def_mk (ps := ["_law_bag_here", "_law_many"]) X G a_l_take d_l_take fun _ _ _ _ _ _ us hl => match us, hl with | [_, _], _ => rfl
  obtain ⟨fd_l_alike, D_l_alike⟩ := def_mk (ps := ["_law_found", "_law_due_here"]) X G a_l_alike d_l_alike fun _ _ _ _ _ _ us hl => match us, hl with | [_, _], _ => rfl
  obtain ⟨fd_l_one, D_l_one⟩ := def_mk (ps := ["_law_bag_here", "_law_things"]) X G a_l_one d_l_one fun _ _ _ _ _ _ us hl => match us, hl with | [_, _], _ => rfl
  obtain ⟨fd_l_number, D_l_number⟩ := def_mk (ps := ["_law_bag_here"]) X G a_l_number d_l_number fun _ _ _ _ _ _ us hl => match us, hl with | [_], _ => rfl
  obtain ⟨fd_l_step, D_l_step⟩ := def_mk (ps := ["_law_bag_here"]) X G a_l_step d_l_step fun _ _ _ _ _ _ us hl => match us, hl with | [_], _ => rfl
  obtain ⟨fd_l_test, D_l_test⟩ := def_mk (ps := ["_law_bag_here", "_law_names"]) X G a_l_test d_l_test fun _ _ _ _ _ _ us hl => match us, hl with | [_, _], _ => rfl
  obtain ⟨fd_l_leaf, D_l_leaf⟩ := def_mk (ps := ["_law_bag_here", "_law_names"]) X G a_l_leaf d_l_leaf fun _ _ _ _ _ _ us hl => match us, hl with | [_, _], _ => rfl
  obtain ⟨fd_l_small, D_l_small⟩ := def_mk (ps := ["_law_bag_here", "_law_names"]) X G a_l_small d_l_small fun _ _ _ _ _ _ us hl => match us, hl with | [_, _], _ => rfl
  obtain ⟨fd_l_split, D_l_split⟩ := def_mk (ps := ["_law_bag_here", "_law_many", "_law_number_here"]) X G a_l_split d_l_split fun _ _ _ _ _ _ us hl => match us, hl with | [_, _, _], _ => rfl
  obtain ⟨fd_l_tree, D_l_tree⟩ := def_mk (ps := ["_law_bag_here", "_law_names", "_law_many", "_law_deep"]) X G a_l_tree d_l_tree fun _ _ _ _ _ _ us hl => match us, hl with | [_, _, _, _], _ => rfl
  obtain ⟨fd_l_column, D_l_column⟩ := def_mk (ps := ["_law_bag_here", "_law_name"]) X G a_l_column d_l_column fun _ _ _ _ _ _ us hl => match us, hl with | [_, _], _ => rfl
  obtain ⟨fd_l_values, D_l_values⟩ := def_mk (ps := ["_law_column_here"]) X G a_l_values d_l_values fun _ _ _ _ _ _ us hl => match us, hl with | [_], _ => rfl
  obtain ⟨fd_l_every_row, D_l_every_row⟩ := def_mk (ps := ["_law_columns"]) X G a_l_every_row d_l_every_row fun _ _ _ _ _ _ us hl => match us, hl with | [_], _ => rfl
  obtain ⟨fd_l_longer_rows, D_l_longer_rows⟩ := def_mk (ps := ["_law_listed", "_law_column_here"]) X G a_l_longer_rows d_l_longer_rows fun _ _ _ _ _ _ us hl => match us, hl with | [_, _], _ => rfl
  obtain ⟨fd_l_led, D_l_led⟩ := def_mk (ps := ["_law_steps", "_law_number_here"]) X G a_l_led d_l_led fun _ _ _ _ _ _ us hl => match us, hl with | [_, _], _ => rfl
  obtain ⟨fd_l_so, D_l_so⟩ := def_mk (ps := ["_law_sign", "_law_number_here", "_law_n"]) X G a_l_so d_l_so fun _ _ _ _ _ _ us hl => match us, hl with | [_, _, _], _ => rfl
  obtain ⟨fd_l_told, D_l_told⟩ := def_mk (ps := ["_law_leaf_here", "_law_row"]) X G a_l_told d_l_told fun _ _ _ _ _ _ us hl => match us, hl with | [_, _], _ => rfl
  obtain ⟨fd_l_parts, D_l_parts⟩ := def_mk (ps := ["_law_condition"]) X G a_l_parts d_l_parts fun _ _ _ _ _ _ us hl => match us, hl with | [_], _ => rfl
  obtain ⟨fd_l_listened, D_l_listened⟩ := def_mk (ps := ["_law_condition", "_law_row", "_law_spot"]) X G a_l_listened d_l_listened fun _ _ _ _ _ _ us hl => match us, hl with | [_, _, _], _ => rfl
  obtain ⟨fd_l_heard, D_l_heard⟩ := def_mk (ps := ["_law_condition", "_law_contents"]) X G a_l_heard d_l_heard fun _ _ _ _ _ _ us hl => match us, hl with | [_, _], _ => rfl
  obtain ⟨fd_l_due, D_l_due⟩ := def_mk (ps := ["_law_condition", "_law_contents"]) X G a_l_due d_l_due fun _ _ _ _ _ _ us hl => match us, hl with | [_, _], _ => rfl
  obtain ⟨fd_law, D_law⟩ := def_mk (ps := ["_law_script"]) X G a_law d_law fun _ _ _ _ _ _ us hl => match us, hl with | [_], _ => rfl
  obtain ⟨fdI_Errs, e_Errs⟩ := e_Errs
  obtain ⟨fdI_NoRow, e_NoRow⟩ := e_NoRow
  obtain ⟨fd_Asker___init, D_Asker___init⟩ := mdef_mk (ps := ["self", "row", "plan", "every", "lowers"]) am_Asker___init im_Asker___init d_Asker___init fun _ _ _ _ _ _ us hl => match us, hl with | [_, _, _, _, _], _ => rfl
  obtain ⟨fd_Asker_said, D_Asker_said⟩ := mdef_mk (ps := ["self", "condition", "address", "plain"]) am_Asker_said im_Asker_said d_Asker_said fun _ _ _ _ _ _ us hl => match us, hl with | [_, _, _, _], _ => rfl
  obtain ⟨fd_Asker__node_said, D_Asker__node_said⟩ := mdef_mk (ps := ["self", "condition", "address", "plain"]) am_Asker__node_said im_Asker__node_said d_Asker__node_said fun _ _ _ _ _ _ us hl => match us, hl with | [_, _, _, _], _ => rfl
  obtain ⟨fd_Asker__case_said, D_Asker__case_said⟩ := mdef_mk (ps := ["self", "condition", "address", "plain"]) am_Asker__case_said im_Asker__case_said d_Asker__case_said fun _ _ _ _ _ _ us hl => match us, hl with | [_, _, _, _], _ => rfl
  obtain ⟨fd_Asker__first_said, D_Asker__first_said⟩ := mdef_mk (ps := ["self", "condition", "address"]) am_Asker__first_said im_Asker__first_said d_Asker__first_said fun _ _ _ _ _ _ us hl => match us, hl with | [_, _, _], _ => rfl
  have T_Asker : AskerT K mg C_Asker f_Asker___init := ⟨T0_Asker, M_Asker, PySem.W.mg_of X G aC_Asker, N_Asker_row, N_Asker_plan, N_Asker_every, N_Asker_lowers, N_Asker_trail⟩
  have e := hfa.symm.trans D_law.mg
  cases e
  refine ⟨fd_law, fun s u => ?_, fun base _ _ => ?_⟩
  · obtain ⟨_, _, _, _, _, _, _, _, _, rfl, _⟩ := D_law.fn.ex
    exact .of_eq rfl
  have Gb := bag_sealed (ok_bagI (P := P) (w := w) (base := base) D_l_bag bi)
  have Gt := take_sealed (ok_takeI (P := P) (w := w) (base := base) D_l_take bi)
  have Go := ok_one (P := P) (w := w) (base := base) D_l_one bi D_l_take Gt
  have Gn := ok_number (P := P) (w := w) (base := base) D_l_number bi D_l_take Gt
  have Gs := ok_step (P := P) (w := w) (base := base) D_l_step bi D_l_take Gt D_l_one Go D_l_number Gn
  have Gte := ok_test (P := P) (w := w) (base := base) D_l_test bi D_l_take Gt D_l_one Go D_l_step Gs
  have Gle := ok_leaf (P := P) (w := w) (base := base) D_l_leaf bi D_l_take Gt D_l_one Go D_l_test Gte
  have Gsm := ok_small (P := P) (w := w) (base := base) D_l_small bi D_l_take Gt D_l_one Go D_l_leaf Gle
  have Gsp := ok_split (P := P) (w := w) (base := base) D_l_split bi D_l_take Gt
  have Gtr := ok_tree (P := P) (w := w) (base := base) D_l_tree bi D_l_take Gt D_l_small Gsm D_l_split Gsp 6
  have Gi := ok_init (P := P) (w := w) (mg := mg) (base := base) e_Errs
  have Gp := ok_goal_of (P := P) (w := w) (base := base) D_goal_of bi e_Errs Gi
  have Gps := ok_steps_on (P := P) (w := w) (base := base) D_steps_on bi e_Errs Gi D_goal_of Gp
  have Gii := ok_is_integer (P := P) (w := w) (base := base) D_is_integer bi
  have Gco := ok_column_of (P := P) (w := w) (base := base) D_column_of bi
  have Gag := ok_agrees (P := P) (w := w) (base := base) D_agrees bi C_BELOW C_LEVEL C_ABOVE
  have Gaa := ok_asks_answer (P := P) (w := w) (base := base) D_asks_answer bi e_Errs D_is_integer Gii D_agrees Gag D_steps_on Gps
  have Gta := ok_test_answer (P := P) (w := w) (base := base) D_test_answer bi D_is_integer Gii D_asks_answer Gaa
  have Gal := ok_leaf_answer (P := P) (w := w) (base := base) D_leaf_answer bi D_column_of Gco D_test_answer Gta
  have Gai := ok_asker (P := P) (w := w) (base := base) T_Asker D_Asker___init
  have Gsa := ok_said (P := P) (w := w) (base := base) T_Asker D_Asker_said bi C_DECIDES C_OPPOSITES C_NODES D_Asker__node_said D_Asker__case_said D_Asker__first_said D_leaf_answer Gal 8
  have Gan := ok_answer (P := P) (w := w) (base := base) D_answer bi T_Asker D_Asker___init Gai D_Asker_said Gsa
  have Gc := ok_column (P := P) (w := w) (base := base) D_l_column bi D_l_take Gt
  have Gv := ok_values (P := P) (w := w) (base := base) D_l_values bi
  have Glo := ok_longer (P := P) (w := w) (base := base) D_l_longer_rows bi D_l_values Gv
  have Ger := ok_every (P := P) (w := w) (base := base) D_l_every_row bi D_l_longer_rows Glo
  have Gk := ok_alike (P := P) (w := w) (base := base) D_l_alike bi
  have Gld := ok_led (P := P) (w := w) (base := base) D_l_led bi
  have Gso := ok_so (P := P) (w := w) (base := base) D_l_so bi
  have Gto := ok_told (P := P) (w := w) (base := base) D_l_told bi D_l_led Gld D_l_so Gso
  have Gpa := ok_parts (P := P) (w := w) (base := base) D_l_parts bi
  have Gli := ok_listened (P := P) (w := w) (base := base) D_l_listened bi D_l_parts Gpa D_l_told Gto 8
  have Gir := ok_initR (P := P) (w := w) (mg := mg) (base := base) e_NoRow
  have Gke := ok_kept (P := P) (w := w) (base := base) D_kept bi e_NoRow Gir D_answer Gan
  have Ghe := ok_heard (P := P) (w := w) (base := base) D_l_heard bi e_NoRow D_kept Gke
  have Gdu := ok_due (P := P) (w := w) (base := base) D_l_due bi D_l_listened Gli
  exact ok_law D_law bi D_l_bag Gb D_l_take Gt D_l_one Go D_l_column Gc D_l_tree Gtr D_l_listened Gli D_l_every_row Ger D_l_alike Gk D_l_heard Ghe D_l_due Gdu D_kept Gke
end K26
open PySem PySem.W PyProof.Rows
set_option maxRecDepth 100000 in
set_option maxHeartbeats 0 in
theorem PySem.Challenge.cw_refusedahead_k26_contents_kept_holds : PySem.Challenge.rw_refusedahead_k26_contents_kept.Holds := by
  w_on; o_law; k_head; (case hw => w_witness2)
  k_fill
  refine Gx.walkQ (l := PySem.Challenge.rw_refusedahead_k26_contents_kept) (n := 63) (k := 27) (x := "_law_script") (CX := fun _ => L2.CX0) (sp := fun w => K26.spLaw (_ : PySem.W.Frag)) rfl (by decide) rfl ⟨rfl, by decide, by decide⟩
    (fun w h Y => PySem.W.kIn_of Y) ?F (fun _ _ a ns hl _ hS => ⟨a, ns, rfl, hS, hl, fun _ => rfl⟩) (fun _ _ _ _ _ z => z)
  case F =>
    intro w mg fa h KX G hmg
    refine' K26.all_ok KX G hmg ?a_is_integer ?d_is_integer ?a_goal_of ?d_goal_of ?a_steps_on ?d_steps_on ?a_column_of ?d_column_of ?a_agrees ?d_agrees ?a_asks_answer ?d_asks_answer ?a_test_answer ?d_test_answer ?a_leaf_answer ?d_leaf_answer ?a_answer ?d_answer ?a_kept ?d_kept ?a_l_bag ?d_l_bag ?a_l_take ?d_l_take ?a_l_alike ?d_l_alike ?a_l_one ?d_l_one ?a_l_number ?d_l_number ?a_l_step ?d_l_step ?a_l_test ?d_l_test ?a_l_leaf ?d_l_leaf ?a_l_small ?d_l_small ?a_l_split ?d_l_split ?a_l_tree ?d_l_tree ?a_l_column ?d_l_column ?a_l_values ?d_l_values ?a_l_every_row ?d_l_every_row ?a_l_longer_rows ?d_l_longer_rows ?a_l_led ?d_l_led ?a_l_so ?d_l_so ?a_l_told ?d_l_told ?a_l_parts ?d_l_parts ?a_l_listened ?d_l_listened ?a_l_heard ?d_l_heard ?a_l_due ?d_l_due ?a_law ?d_law ?b_len ?b_abs ?b_max ?b_min ?b_repr ?b_int ?b_tuple ?b_list ?b_dict ?b_isinstance ?b_sorted ?b_sum ?b_all ?b_any ?b_range ?b_enumerate ?b_zip ?b_bool ?b_str ?b_set ?e_Errs ?e_NoRow ?aC_Asker ?T0_Asker ?M_Asker ?N_Asker_row ?N_Asker_plan ?N_Asker_every ?N_Asker_lowers ?N_Asker_trail ?am_Asker___init ?im_Asker___init ?d_Asker___init ?am_Asker_said ?im_Asker_said ?d_Asker_said ?am_Asker__node_said ?im_Asker__node_said ?d_Asker__node_said ?am_Asker__case_said ?im_Asker__case_said ?d_Asker__case_said ?am_Asker__first_said ?im_Asker__first_said ?d_Asker__first_said ?C_BELOW ?C_LEVEL ?C_ABOVE ?C_NODES ?C_OPPOSITES ?C_DECIDES
    (case a_is_integer => k_is)
    (case d_is_integer => refine' K26.isdef_mk ?l ?c ?k; (case l => k_is); (case c => k_is); (case k => k_is))
    (case a_goal_of => k_is)
    (case d_goal_of => refine' K26.isdef_mk ?l ?c ?k; (case l => k_is); (case c => k_is); (case k => k_is))
    (case a_steps_on => k_is)
    (case d_steps_on => refine' K26.isdef_mk ?l ?c ?k; (case l => k_is); (case c => k_is); (case k => k_is))
    (case a_column_of => k_is)
    (case d_column_of => refine' K26.isdef_mk ?l ?c ?k; (case l => k_is); (case c => k_is); (case k => k_is))
    (case a_agrees => k_is)
    (case d_agrees => refine' K26.isdef_mk ?l ?c ?k; (case l => k_is); (case c => k_is); (case k => k_is))
    (case a_asks_answer => k_is)
    (case d_asks_answer => refine' K26.isdef_mk ?l ?c ?k; (case l => k_is); (case c => k_is); (case k => k_is))
    (case a_test_answer => k_is)
    (case d_test_answer => refine' K26.isdef_mk ?l ?c ?k; (case l => k_is); (case c => k_is); (case k => k_is))
    (case a_leaf_answer => k_is)
    (case d_leaf_answer => refine' K26.isdef_mk ?l ?c ?k; (case l => k_is); (case c => k_is); (case k => k_is))
    (case a_answer => k_is)
    (case d_answer => refine' K26.isdef_mk ?l ?c ?k; (case l => k_is); (case c => k_is); (case k => k_is))
    (case a_kept => k_is)
    (case d_kept => refine' K26.isdef_mk ?l ?c ?k; (case l => k_is); (case c => k_is); (case k => k_is))
    (case a_l_bag => k_is)
    (case d_l_bag => refine' K26.isdef_mk ?l ?c ?k; (case l => k_is); (case c => k_is); (case k => k_is))
    (case a_l_take => k_is)
    (case d_l_take => refine' K26.isdef_mk ?l ?c ?k; (case l => k_is); (case c => k_is); (case k => k_is))
    (case a_l_alike => k_is)
    (case d_l_alike => refine' K26.isdef_mk ?l ?c ?k; (case l => k_is); (case c => k_is); (case k => k_is))
    (case a_l_one => k_is)
    (case d_l_one => refine' K26.isdef_mk ?l ?c ?k; (case l => k_is); (case c => k_is); (case k => k_is))
    (case a_l_number => k_is)
    (case d_l_number => refine' K26.isdef_mk ?l ?c ?k; (case l => k_is); (case c => k_is); (case k => k_is))
    (case a_l_step => k_is)
    (case d_l_step => refine' K26.isdef_mk ?l ?c ?k; (case l => k_is); (case c => k_is); (case k => k_is))
    (case a_l_test => k_is)
    (case d_l_test => refine' K26.isdef_mk ?l ?c ?k; (case l => k_is); (case c => k_is); (case k => k_is))
    (case a_l_leaf => k_is)
    (case d_l_leaf => refine' K26.isdef_mk ?l ?c ?k; (case l => k_is); (case c => k_is); (case k => k_is))
    (case a_l_small => k_is)
    (case d_l_small => refine' K26.isdef_mk ?l ?c ?k; (case l => k_is); (case c => k_is); (case k => k_is))
    (case a_l_split => k_is)
    (case d_l_split => refine' K26.isdef_mk ?l ?c ?k; (case l => k_is); (case c => k_is); (case k => k_is))
    (case a_l_tree => k_is)
    (case d_l_tree => refine' K26.isdef_mk ?l ?c ?k; (case l => k_is); (case c => k_is); (case k => k_is))
    (case a_l_column => k_is)
    (case d_l_column => refine' K26.isdef_mk ?l ?c ?k; (case l => k_is); (case c => k_is); (case k => k_is))
    (case a_l_values => k_is)
    (case d_l_values => refine' K26.isdef_mk ?l ?c ?k; (case l => k_is); (case c => k_is); (case k => k_is))
    (case a_l_every_row => k_is)
    (case d_l_every_row => refine' K26.isdef_mk ?l ?c ?k; (case l => k_is); (case c => k_is); (case k => k_is))
    (case a_l_longer_rows => k_is)
    (case d_l_longer_rows => refine' K26.isdef_mk ?l ?c ?k; (case l => k_is); (case c => k_is); (case k => k_is))
    (case a_l_led => k_is)
    (case d_l_led => refine' K26.isdef_mk ?l ?c ?k; (case l => k_is); (case c => k_is); (case k => k_is))
    (case a_l_so => k_is)
    (case d_l_so => refine' K26.isdef_mk ?l ?c ?k; (case l => k_is); (case c => k_is); (case k => k_is))
    (case a_l_told => k_is)
    (case d_l_told => refine' K26.isdef_mk ?l ?c ?k; (case l => k_is); (case c => k_is); (case k => k_is))
    (case a_l_parts => k_is)
    (case d_l_parts => refine' K26.isdef_mk ?l ?c ?k; (case l => k_is); (case c => k_is); (case k => k_is))
    (case a_l_listened => k_is)
    (case d_l_listened => refine' K26.isdef_mk ?l ?c ?k; (case l => k_is); (case c => k_is); (case k => k_is))
    (case a_l_heard => k_is)
    (case d_l_heard => refine' K26.isdef_mk ?l ?c ?k; (case l => k_is); (case c => k_is); (case k => k_is))
    (case a_l_due => k_is)
    (case d_l_due => refine' K26.isdef_mk ?l ?c ?k; (case l => k_is); (case c => k_is); (case k => k_is))
    (case a_law => k_is)
    (case d_law => refine' K26.isdef_mk ?l ?c ?k; (case l => k_is); (case c => k_is); (case k => k_is))
    (case b_len => k_is)
    (case b_abs => k_is)
    (case b_max => k_is)
    (case b_min => k_is)
    (case b_repr => k_is)
    (case b_int => k_is)
    (case b_tuple => k_is)
    (case b_list => k_is)
    (case b_dict => k_is)
    (case b_isinstance => k_is)
    (case b_sorted => k_is)
    (case b_sum => k_is)
    (case b_all => k_is)
    (case b_any => k_is)
    (case b_range => k_is)
    (case b_enumerate => k_is)
    (case b_zip => k_is)
    (case b_bool => k_is)
    (case b_str => k_is)
    (case b_set => k_is)
    (case e_Errs => refine' K26.err_mk KX G ?aC ?cC ?sa ?ga ?gg ?no ?iC ?tI ?kC ?eC ?tC ?hC ?oC ?sC ?d (fun _ _ _ _ _ _ us hl => match us, hl with | [_, _], _ => rfl); (case aC => k_is); (case cC => refine' K26.cls_mk ?l ?v; (case l => k_is); (case v => decide +kernel)); (case sa => k_is); (case ga => k_is); (case gg => k_is); (case no => k_is); (case iC => k_is); (case tI => k_is); (case kC => k_is); (case eC => k_is); (case tC => k_is); (case hC => k_is); (case oC => k_is); (case sC => first | rfl | k_is); (case d => refine' K26.isdef_mk ?l ?c ?k; (case l => k_is); (case c => k_is); (case k => k_is)))
    (case e_NoRow => refine' K26.err_mk KX G ?aC ?cC ?sa ?ga ?gg ?no ?iC ?tI ?kC ?eC ?tC ?hC ?oC ?sC ?d (fun _ _ _ _ _ _ us hl => match us, hl with | [_, _], _ => rfl); (case aC => k_is); (case cC => refine' K26.cls_mk ?l ?v; (case l => k_is); (case v => decide +kernel)); (case sa => k_is); (case ga => k_is); (case gg => k_is); (case no => k_is); (case iC => k_is); (case tI => k_is); (case kC => k_is); (case eC => k_is); (case tC => k_is); (case hC => k_is); (case oC => k_is); (case sC => first | rfl | k_is); (case d => refine' K26.isdef_mk ?l ?c ?k; (case l => k_is); (case c => k_is); (case k => k_is)))
    (case aC_Asker => k_is)
    (case T0_Asker => refine' ⟨?zpg, ?zhd, ?zpo, ?zsa⟩; (case zpg => k_is); (case zhd => k_is); (case zpo => k_is); (case zsa => k_is))
    (case M_Asker => refine' ⟨?zmk, ?zin, ?zfn, ?zkp⟩; (case zmk => k_is); (case zin => k_is); (case zfn => k_is); (case zkp => k_is))
    (case N_Asker_row => (show PySem.W.findIn _ _ _ = _); k_is)
    (case N_Asker_plan => (show PySem.W.findIn _ _ _ = _); k_is)
    (case N_Asker_every => (show PySem.W.findIn _ _ _ = _); k_is)
    (case N_Asker_lowers => (show PySem.W.findIn _ _ _ = _); k_is)
    (case N_Asker_trail => (show PySem.W.findIn _ _ _ = _); k_is)
    (case am_Asker___init => k_is)
    (case im_Asker___init => k_is)
    (case d_Asker___init => refine' K26.isdef_mk ?l ?c ?k; (case l => k_is); (case c => k_is); (case k => k_is))
    (case am_Asker_said => k_is)
    (case im_Asker_said => k_is)
    (case d_Asker_said => refine' K26.isdef_mk ?l ?c ?k; (case l => k_is); (case c => k_is); (case k => k_is))
    (case am_Asker__node_said => k_is)
    (case im_Asker__node_said => k_is)
    (case d_Asker__node_said => refine' K26.isdef_mk ?l ?c ?k; (case l => k_is); (case c => k_is); (case k => k_is))
    (case am_Asker__case_said => k_is)
    (case im_Asker__case_said => k_is)
    (case d_Asker__case_said => refine' K26.isdef_mk ?l ?c ?k; (case l => k_is); (case c => k_is); (case k => k_is))
    (case am_Asker__first_said => k_is)
    (case im_Asker__first_said => k_is)
    (case d_Asker__first_said => refine' K26.isdef_mk ?l ?c ?k; (case l => k_is); (case c => k_is); (case k => k_is))
    (case C_BELOW => refine' K26.conT_mk KX G ?aC ?l ?v ?sz; (case aC => k_is); (case l => k_is); (case v => exact .cons ⟨_, rfl⟩ (.cons ⟨_, rfl⟩ (.cons ⟨_, rfl⟩ (.nil)))); (case sz => decide))
    (case C_LEVEL => refine' K26.conT_mk KX G ?aC ?l ?v ?sz; (case aC => k_is); (case l => k_is); (case v => exact .cons ⟨_, rfl⟩ (.cons ⟨_, rfl⟩ (.cons ⟨_, rfl⟩ (.nil)))); (case sz => decide))
    (case C_ABOVE => refine' K26.conT_mk KX G ?aC ?l ?v ?sz; (case aC => k_is); (case l => k_is); (case v => exact .cons ⟨_, rfl⟩ (.cons ⟨_, rfl⟩ (.cons ⟨_, rfl⟩ (.nil)))); (case sz => decide))
    (case C_NODES => refine' K26.conT_mk KX G ?aC ?l ?v ?sz; (case aC => k_is); (case l => k_is); (case v => exact .cons ⟨_, rfl⟩ (.cons ⟨_, rfl⟩ (.nil))); (case sz => decide))
    (case C_OPPOSITES => refine' K26.conD_mk KX G ?za ?zl ?zq ?zv; (case za => k_is); (case zl => k_is); (case zq => exact ⟨⟨_, _, rfl, rfl⟩, ⟨⟨_, _, rfl, rfl⟩, ⟨⟨_, _, rfl, rfl⟩, ⟨⟨_, _, rfl, rfl⟩, trivial⟩⟩⟩⟩); (case zv => (intro p hp; simp only [K26.oppo, List.mem_cons, List.not_mem_nil, or_false] at hp; rcases hp with rfl | rfl | rfl | rfl <;> exact ⟨_, _, rfl, rfl⟩)))
    (case C_DECIDES => refine' K26.conD_mk KX G ?za ?zl ?zq ?zv; (case za => k_is); (case zl => k_is); (case zq => exact ⟨⟨_, _, rfl, rfl⟩, ⟨⟨_, _, rfl, rfl⟩, trivial⟩⟩); (case zv => (intro p hp; simp only [K26.decides, List.mem_cons, List.not_mem_nil, or_false] at hp; rcases hp with rfl | rfl <;> exact ⟨_, _, rfl, rfl⟩)))

