import PyProof.Rows.All
import Wide.All
import OpenK.AllK
import Wide.FinOn
import PyProof.ReprRoads
import HandS.ForMost
import HandS.ForExc
import HandS.Evl
import HandS.Wide
import HandS.Conv
import HandS.More
import HandS.WideBits
import HandS.ExcInit
import HandS.ExcField
import HandS.IsInst
import KE.KDictPairs
import KE.GoesMore
import HandS.TupMul
import HandS.TupAny
import HandS.SlotsOwn
import HandS.Property
import PyProof.InstNe
import OpenK.KMeth
import KE.KOpsOwn
import HandS.SortKw
import KE.SortKeyHeap
import KE.DataMinKey
import HandS.ExcIs
import HandS.TryOnly
import HandS.Zip
import KE.SortData
import KE.LtData
import KE.SortLaws
import HandS.IterVal
import HandS.Style
import PySem.Challenge.RW_refusedahead_k12_spans_told
set_option Elab.async false
set_option linter.all false
set_option maxRecDepth 100000
set_option maxHeartbeats 2000000
/-! Calls made while no repr is under way (needed for repr); repr and == of data; wide division. -/
namespace Gx
open PySem PySem.Spec PyProof.Rows L2
abbrev Quiet (A : Around) : Prop := A.guards = some []
structure FnQ (P : Program) (w : World) (K : PySem.W.Frag) (mg : Str → Option Value)
    (base : Heap) (CX : CXT) (k : Nat) (f : Addr) (fd : FuncData) (ps : List Str) (sp : Sp) : Prop where
  argc : ∀ vs H Q E, sp vs H Q E → vs.length = ps.length
  goes : ∀ (A : Around) (outer : List Env) (s : Shared) (H : Hp) (args : Args) (us : List Value)
    (vs : List V) (Q : VK) (E : XK), Room k A → Quiet A → Env0 P w K mg base A outer s H →
    BindsTo s fd args (ps.zip us) → Vals vs us → sp vs H Q E →
    codeAny (model P w) A (.call (.ref f) args) (CR CX outer P w H s Q E) s
section
variable {P : Program} {w : World} {K : PySem.W.Frag} {mg : Str → Option Value} {base : Heap} {CX : CXT}
/-- a def whose promise holds at any call holds it at a quiet one -/
theorem FnQ.of {k : Nat} {f : Addr} {fd : FuncData} {ps : List Str} {sp : Sp}
    (G : FnOk P w K mg base CX k f fd ps sp) : FnQ P w K mg base CX k f fd ps sp :=
  ⟨G.len, fun A o s H ar us vs Q E r _ => G.run A o s H ar us vs Q E r⟩
theorem FnQ.mono {j k : Nat} {f : Addr} {fd : FuncData} {ps : List Str} {sp : Sp}
    (G : FnQ P w K mg base CX j f fd ps sp) (h : j ≤ k) : FnQ P w K mg base CX k f fd ps sp :=
  ⟨G.argc, fun A o s H ar us vs Q E r => G.goes A o s H ar us vs Q E (r.mono h)⟩
/-- a def's body, walked at quiet calls alone -/
theorem fnq_of {x qual : Str} {st : Stmt} {f : Addr} {fd : FuncData} {N ps : List Str} {k : Nat} {sp : Sp}
    (F : Fun K x qual st f fd) (S : FnScope N ps (defScope st))
    (len : ∀ vs H Q E, sp vs H Q E → vs.length = ps.length)
    (walk : ∀ (cdv : Value) (A : Around) (outer : List Env) (s : Shared) (H : Hp) (vs : List V) (Q : VK) (E : XK),
      Room k (A.deeper (envOfC qual (defScope st) s.heap.objs.size f cdv)) → Quiet A → sp vs H Q E →
      ∃ t, PSs (cxOf CX P w K mg base N qual (defScope st) f cdv A outer s H E) (defBody st) t ∧
        t { nx := fun _ H' => Q .non H', rt := Q } (start N vs) H) :
    FnQ P w K mg base CX (k + 1) f fd ps sp := by
  obtain ⟨oc, od, kV, doc, pm, an, cdv, ct, osl, rfl, lk, hcd⟩ := F.ex
  refine ⟨len, fun A o s H ar us vs Q E rm qu e0 bd rv hs => ?_⟩
  have argl := len _ _ _ _ hs
  have inK : K.In s.heap := e0.mod.kin.keeps fun b ob z => (e0.bs b ob z).1
  have nolim : s.heap.NoLimit := e0.mod.nolimit.keeps fun b ob z => (e0.bs b ob z).1
  refine codeAny_call_function rm.depth (inK _ _ lk) rfl S.co S.gen rfl
    (PySem.W.codeRec_of inK hcd) (bd _ _ _ _ ?_)
  refine wpAny_newFunctionEnv_cells S.kind (fun y hy => ?_) fun en hen s1 ic => ?_
  · obtain ⟨nm, vl⟩ := y
    rcases S.par nm (List.of_mem_zip hy).1 with loc | cel
    · exact .inl loc
    · exact .inr ⟨cel, PySem.W.cellsFrom_some _ _ _ (.inl cel)⟩
  · subst hen
    refine ⟨nolim.keeps ic.toInCall.keep, codeAny_func ?_⟩
    obtain ⟨t, pt, ht⟩ := walk cdv A o s H vs Q E (rm.deeper _) qu hs
    have I := inv_start (CX := CX) (E := E) S rm.hd e0 argl rv ic
    refine wpAny_mono (pt.run [] s1 (start N vs) H _ I ht) (fun fl s' hq => ?_) fun _ _ hq => hq
    cases fl with
    | brk => obtain ⟨_, _, _, no⟩ := hq; exact no.elim
    | cont => obtain ⟨_, _, _, no⟩ := hq; exact no.elim
    | next => obtain ⟨σ, H', J, q⟩ := hq; exact ⟨.non, H', J.os, J.bare, J.base, J.hok, rfl, q⟩
    | ret u => obtain ⟨v, σ, H', J, r, q⟩ := hq; exact ⟨v, H', J.os, J.bare, J.base, J.hok, r, q⟩
end
section
variable {X : Cx} {CX : CXT} {k : Nat} {f : Addr} {fd : FuncData} {ps : List Str} {sp : Sp} {E : XK}
  {x : Str} {p pos : Pos} {e : Expr} {es : List Expr} {t : TA}
/-- f(..) at a quiet place -/
theorem pe_callQ (G : FnQ X.prog X.w X.K X.mg X.base CX k f fd ps sp) (qu : Quiet X.A) (rm : Room k X.A)
    (hg : Gl X x) (hm : X.mg x = some (.ref f)) (hk : PySem.W.keepIn X.K (.ref f) = true)
    (bd : Binds X.K fd ps []) (pass : Passes CX X E) (ha : PA X (e :: es) t)
    (hdb : (x == ("__debug__" : Str)) = false := by decide)
    (he : starEach (e :: es) X.env = (false, eval e X.env) :: starEach es X.env := by rfl)
    (hpl : (backTo pos (starEach es X.env)).any (·.1) = false := by rfl) :
    PE X (.Call (.Name x p) (e :: es) [] pos) (tCall sp [] E t) := by
  constructor
  intro pins s σ H Q I h
  refine wpAny_Call_Name_kw (ld_glob I hg hm ?_ hdb)
  refine PySem.W.callWith_K (h₀ := X.base) I.ok.mod.kin hk (thn (ha.run pos pins s σ H _ I h) ?_) he hpl
  rintro us s1 ⟨vs, H1, I1, rv, q⟩
  refine ⟨I1.kIn, wpAny_call (codeAny_mono (G.goes X.A X.stack s1 H1 ⟨us, []⟩ us vs Q E rm qu I1.env0 ?_ rv ?_) ?_)⟩
  · have b := bd s1 us I1.kIn (by rw [List.append_nil, ← rv.length, ← List.append_nil vs]; exact G.argc _ _ _ _ q)
    rwa [List.append_nil] at b
  · rwa [List.append_nil] at q
  · intro r s' hq
    match r, hq with
    | .error z, hq => exact pass pins σ H1 s1 z s' I1 hq
    | .ok (.ret u), hq => exact I1.after hq
end
end Gx

set_option Elab.async false
set_option linter.all false
set_option maxRecDepth 100000
set_option maxHeartbeats 2000000
namespace Gx
open PySem PySem.Spec PyProof.Rows L2
/-- the law's call from outside: nothing is tracked but the script, where that is no object of the module -/
theorem law_goes {P : Program} {w : World} {K : PySem.W.Frag} {mg mb : Str → Option Value} {CX : CXT} {k : Nat}
    {fa a : Addr} {fd : FuncData} {x : Str} {sp : Sp} {z : Shared} {vs : List Value} {ns : List Int}
    (inK : K.In z.heap) (gl : z.heap.Ns mainGlobals mg) (bl : z.heap.Ns builtinsNs mb)
    (bb : ∀ x : Str, x ≠ "__name__" → mb x = bootBuiltins x) (lim : z.heap.NoLimit) (gs : z.gens = #[])
    (ha : z.heap.get? a = some { cls := .type "list", data := .seq vs.toArray }) (hi : IntsAre vs ns)
    (hl : ns.length ≤ sizeLine) (rm : Room k callerA)
    (G : ∀ base : Heap, K.In base → base.Ns mainGlobals mg → FnQ P w K mg base CX k fa fd [x] sp)
    (bd : ∀ (s : Shared) (u : Value), BindsTo s fd ⟨[u], []⟩ [(x, u)])
    (hsp : ∀ H : Hp, Only H → SqL K H a (ns.map V.int) → sp [.ref a] H (fun v _ => v = .bl true) fun _ _ _ => False)
    (no : ∀ H e s', CX [] H z (fun _ _ _ => False) e s' → False) :
    codeAny (model P w) callerA (.call (.ref fa) ⟨[.ref a], []⟩)
      (fun r s' => r = .ok (.ret (.bool true)) ∧ OldK z.heap s'.heap ∧ s'.os = z.os ∧ AllBare s'.gens) z := by
  have rv := vals_ints hi
  have go : ∀ H : Hp, Only H → SqL K H a (ns.map V.int) → HOk P w H z.heap →
      (∀ b u, H b = some u → b = a ∧ K.lookup a = none) →
      codeAny (model P w) callerA (.call (.ref fa) ⟨[.ref a], []⟩)
        (fun r s' => r = .ok (.ret (.bool true)) ∧ OldK z.heap s'.heap ∧ s'.os = z.os ∧ AllBare s'.gens) z := by
    intro H on sq ok at_
    -- a namespace is no list: it is not tracked
    have free : ∀ (b : Addr) (o : Obj), z.heap.get? b = some o → (∀ u n, o.data ≠ .seq u n) → H b = none := by
      intro b o e d
      rcases hb : H b with _ | u
      · rfl
      · obtain ⟨rfl, _⟩ := at_ b u hb
        rw [ha] at e
        cases e
        exact absurd rfl (d _ _)
    have ns_ : ∀ (b : Addr) (m : Str → Option Value), z.heap.Ns b m → (hidT z.heap H).Ns b m := by
      rintro b m ⟨o, es, ep, e, d, r⟩
      exact ⟨o, es, ep, hidT_get e (free b o e fun u n q => by rw [d] at q; cases q), d, r⟩
    have kin : K.In (hidT z.heap H) := by
      intro b o e
      refine hidT_get (inK b o e) ?_
      rcases hb : H b with _ | u
      · rfl
      · obtain ⟨rfl, q⟩ := at_ b u hb
        rw [q] at e
        cases e
    obtain ⟨mc, l1, l2⟩ := lim
    have md : Mod K mg (hidT z.heap H) := ⟨kin, ns_ _ _ gl, ⟨mb, ns_ _ _ bl, bb⟩, ⟨mc, ns_ _ _ l1, l2⟩⟩
    have e0 : Env0 P w K mg (hidT z.heap H) callerA [] z H :=
      ⟨rfl, md, fun _ _ => of_hidT, Nat.le_of_eq (hidT_size _ _), trivial, (fun b (hb : b ∈ ([] : List Addr)) => (List.not_mem_nil hb).elim), ok, .of_eq gs⟩
    refine codeAny_mono ((G _ kin (ns_ _ _ gl)).goes callerA [] z H ⟨[.ref a], []⟩ [.ref a] [.ref a] _ _
      rm rfl e0 (bd z (.ref a)) (.cons rfl .nil) (hsp H on sq)) ?_
    intro r s' h
    match r, h with
    | .error e, h => exact (no H e s' h).elim
    | .ok (.ret u), h =>
      obtain ⟨v, H', os, bare, un, ok', r', q⟩ := h
      subst q
      obtain rfl : u = Value.bool true := r'
      refine ⟨rfl, OldK.of_keep fun b o e => ?_, os, bare⟩
      rcases hb : H b with _ | u
      · exact un.keep b o e hb (fun q => by cases q) (fun q => by cases q)
      · rcases on b with q | ⟨ob, xs, q⟩
        · rw [hb] at q; cases q
        · obtain ⟨e1, _⟩ := ok b _ q
          obtain ⟨e2, _⟩ := ok' b _ (un.frzs b ob _ q)
          rw [e] at e1
          cases e1
          exact e2
  rcases hk : K.lookup a with _ | o
  · let H : Hp := fun b => if b = a then some (.frz { cls := .type "list", data := .seq vs.toArray } (.lst (ns.map V.int))) else none
    have Ha : H a = some (.frz { cls := .type "list", data := .seq vs.toArray } (.lst (ns.map V.int))) := if_pos rfl
    have Hn : ∀ b, b ≠ a → H b = none := fun b hb => if_neg hb
    refine go H (fun b => ?_) (.inl (.inr ⟨_, Ha⟩)) (fun b u e => ?_) (fun b u e => ?_)
    · by_cases hb : b = a
      · subst hb; exact .inr ⟨_, _, Ha⟩
      · exact .inl (Hn b hb)
    · by_cases hb : b = a
      · subst hb
        rw [Ha] at e
        cases e
        exact ⟨ha, by rw [List.length_map]; exact hl, vs, _, rv, ha⟩
      · rw [Hn b hb] at e; cases e
    · by_cases hb : b = a
      · exact ⟨hb, hk⟩
      · rw [Hn b hb] at e; cases e
  · have e := inK a o hk
    rw [ha] at e
    cases e
    refine go (fun _ => none) (fun _ => .inl rfl)
      (.inr ⟨_, vs.toArray, _, hk, rfl, rfl, rfl, by rw [List.size_toArray, hi.length]; exact hl, by simpa using rv⟩)
      (fun b u e => by cases e) (fun b u e => by cases e)
theorem walkQ {l : PySem.W.OpenLaw} {n k : Nat} {q : Program} {loose : List Str}
    {XP : (Str → Option Value) → Heap → Prop} {YP : World → Heap → Prop} {d : DefRec}
    {K : Params → PySem.W.Frag} {CX : World → CXT} {sp : World → Sp} {x : Str}
    (hn : l.most = some n) (hn2 : n ≤ sizeLine) (hdf : d.params.defaults = []) (rm : Room k callerA)
    (hY : ∀ (w : World) (h : Heap), YP w h → (K w.params).In h)
    (F : ∀ (w : World) (mg : Str → Option Value) (fa : Addr) (h : Heap), (K w.params).In h →
      h.Ns mainGlobals mg → mg d.name = some (.ref fa) →
      ∃ fd : FuncData, (∀ (s : Shared) (u : Value), BindsTo s fd ⟨[u], []⟩ [(x, u)]) ∧
        ∀ base : Heap, (K w.params).In base → base.Ns mainGlobals mg →
          FnQ l.prog w (K w.params) mg base (CX w) k fa fd [x] (sp w))
    (hsp : ∀ (w : World) (H : Hp) (a : Addr) (ns : List Int), ns.length ≤ n → Only H →
      SqL (K w.params) H a (ns.map V.int) → sp w [.ref a] H (fun v _ => v = .bl true) fun _ _ _ => False)
    (hCX : ∀ (w : World) (H : Hp) (s : Shared) (e : Value) (s' : Shared), CX w [] H s (fun _ _ _ => False) e s' → False) :
    PySem.W.WalkO q loose XP YP l.row.toRowW d [] (fun f vs => PySem.call f vs) := by
  refine Att.attach_call hn hdf ?_
  intro w s₀ z mg mb fa o pm cd doc a vs ns G Y ho hd hcd hmg hobj hints hlen hg
  obtain ⟨fd, hb, hF⟩ := F w mg fa _ (hY w _ Y) G.T.g hmg
  exact law_goes (hY w _ Y) G.T.g G.T.b G.T.builtins G.T.nolimit hg hobj hints (Nat.le_trans hlen hn2) rm hF hb
    (fun H hO hS => hsp w H a ns hlen hO hS) fun H e s' => hCX w H z e s'
end Gx

set_option Elab.async false
set_option linter.all false
set_option maxRecDepth 100000
set_option maxHeartbeats 2000000
namespace Gx
open PySem PySem.Spec PyProof.Rows L2
/-- what a first clause 'except x as n' that takes every exception of the body wishes of it -/
def wFst (K : PySem.W.Frag) (c : Value) (i : Nat) (ts : Addr → Value → Option Addr → TS) (D : Ends) : WX :=
  fun cls d σ H => PySem.W.exmOne K cls c = some true ∧ ∀ a, H a = none →
    ts a cls d ⟨fun σ' H' => D.nx (σ'.set i none) H', D.rt, fun σ' H' => D.bk (σ'.set i none) H',
      fun σ' H' => D.ct (σ'.set i none) H'⟩ (σ.set i (some (.ref a))) H
section
variable {X : Cx} {x n : Str} {c : Value} {i : Nat} {body suite : List Stmt} {b₀ : Stmt} {np pos pos' : Pos}
  {tb : WX → TS} {ts : Addr → Value → Option Addr → TS} {more : List ExceptHandler}
/-- try: body / except x as n: suite / further clauses, which are never looked at -/
theorem ps_try_fst (hs : X.stack = X.env :: X.outer) (hf : X.env.frame = some X.env.locals) (hN : X.N.Nodup)
    (hi : X.N[i]? = some n) (hln : X.env.kindOf n = some .local) (hc : Names X x c)
    (hb : ∀ (W : WX) (pn : List (Addr × Obj)) (xe : Value → Shared → Prop), L2.Takes (X.tr pn xe) W →
      PassesOwn (model X.prog X.w) X.A X.env xe → PSs (X.tr pn xe) body (tb W))
    (hsu : ∀ (a : Addr) (oe : Obj) (cls : Value) (d : Option Addr) (pn : List (Addr × Obj)), Zc cls d oe →
      (∃ vs, oe.data = .fields vs) → PSs (X.suite a ((a, oe) :: pn)) (b₀ :: suite) (ts a cls d)) :
    PS X (.Try body (.ExceptHandler (some (.Name x np)) (some n) (b₀ :: suite) pos' :: more) [] [] pos)
      (fun D σ H => tb (wFst X.K c i ts D) D σ H) := by
  constructor
  intro pins s σ H D I h
  have ok := I.ok
  have frs_ : X.A.frames = some (X.env :: X.outer) := by rw [ok.frames, hs]
  refine wpAny_Try_except ?_
  refine wpAny_mono ((hb (wFst X.K c i ts D) (X.pn ++ pins) _ ?tk PassesOwn.looking).run [] s σ H D (I.toTry _) h) ?_
    fun e s1 he => he
  case tk =>
    rintro u z ⟨a, B, sI, ps, σ1, H1, cls, d, rfl, J', nb, up, sky, na, os, ag, hm, hy⟩
    have J : Inv X pins σ1 H1 sI := J'.ofTry ok
    rw [show (X.tr (X.pn ++ pins) _).stack = X.env :: X.outer from hs] at sky
    show wpAny (model X.prog X.w) X.A (noteFrame (.ref a) X.env) _ _ _
    refine Sky.land Zc.steady frs_ hf sky fun h3 fl up3 => ?_
    have J3 : Inv X pins σ1 H1 { z with heap := h3 } := J.landed nb fl.1 (up.trans up3) os ag
    obtain ⟨oe, vs, he, hz, hd⟩ := fl.there
    -- an exception is no frame
    have nfr : a ∉ frs (X.env :: X.outer) := by
      intro hin
      obtain ⟨_, o', e', hnf⟩ := fl.2.2.1.mem hin
      rw [he] at e'
      cases e'
      exact hnf _ hd
    have nL : a ≠ X.env.locals := fun q => nfr (List.mem_filterMap.mpr ⟨X.env, List.mem_cons_self, by rw [hf, q]⟩)
    have nF : a ∉ X.fs := fun hin => by
      obtain ⟨e, q1, q2⟩ := List.mem_filterMap.mp hin
      exact nfr (List.mem_filterMap.mpr ⟨e, List.mem_cons_of_mem _ q1, q2⟩)
    have S3 := J3.suite he hd na nL nF
    refine wpAny_handleBy_cons (codeAny_handlers_test ?_) (by intro q; cases q)
    have lt : PySem.W.Looks (model X.prog X.w) h3 (typeOf (.ref a)) cls :=
      fun A Q E s k q => wpAny_typeOf_ref (k _ _ he) (by rw [hz.1]; exact q)
    have lm := PySem.W.exm_one (M := model X.prog X.w) J3.kIn lt hm
    have nm : ∀ {Q : Value → Shared → Prop} {E : Value → Shared → Prop}, Q c { z with heap := h3 } →
        wpAny (model X.prog X.w) (X.A.mark (some (.ref a))) (eval (.Name x np) X.env) Q E { z with heap := h3 } := by
      intro Q E q
      rcases hc with ⟨g1, g2, g3 | ⟨g3, g4, g5⟩⟩
      · exact ld_glob (X := X.suite a ((a, oe) :: (X.pn ++ pins))) S3 g1 g3 q g2
      · exact ld_blt (X := X.suite a ((a, oe) :: (X.pn ++ pins))) S3 g1 g3 g4 q g5 g2
    refine nm (lm.here (codeAny_handlers_suite_as ?_))
    refine HandSPX.lands_againZ fl fun h4 fl4 up4 => ?_
    have J4 : Inv X pins σ1 H1 { z with heap := h4 } := J.landed nb fl4.1 ((up.trans up3).trans up4) os ag
    obtain ⟨oe4, vs4, he4, hz4, hd4⟩ := fl4.there
    have S4 := J4.suite he4 hd4 na nL nF
    refine store_ok (X := X.suite a ((a, oe4) :: (X.pn ++ pins))) (v := .ref a) S4 hN hi (.inl hln) rfl ?_ (.inr hln)
    intro s5 S5
    refine wpAny_mono ((hsu a oe4 cls d (X.pn ++ pins) hz4 ⟨_, hd4⟩).run [] s5 _ H1 _ S5 (hy a na)) ?_ fun _ _ q => q.elim
    intro f s6 hsp
    have fin : ∀ {σ6 : L2.St} {H6 : Hp} {Q : Shared → Prop}, Inv (X.suite a ((a, oe4) :: (X.pn ++ pins))) [] σ6 H6 s6 →
        (∀ s7, Inv X pins (σ6.set i none) H6 s7 → Q s7) →
        wpAny (model X.prog X.w) X.A (do bindName X.env n .none; unbindBehindTheSuite X.env n pos')
          (fun _ s7 => Q s7) X.xe s6 := fun S6 q => gone_ok (S6.unsuite ok) hN hi hln q
    match f, hsp with
    | .next, ⟨σ6, H6, S6, q⟩ => exact fin S6 fun s7 J7 => ⟨_, _, J7, q⟩
    | .brk, ⟨σ6, H6, S6, q⟩ => exact fin S6 fun s7 J7 => ⟨_, _, J7, q⟩
    | .cont, ⟨σ6, H6, S6, q⟩ => exact fin S6 fun s7 J7 => ⟨_, _, J7, q⟩
    | .ret u, ⟨v, σ6, H6, S6, r, q⟩ => exact fin S6 fun s7 J7 => ⟨_, _, _, J7, r, q⟩
  · intro f s1 hsp
    match f, hsp with
    | .next, ⟨σ', H', J', q⟩ => exact wpAny_execs_nil ⟨σ', H', J'.ofTry ok, q⟩
    | .brk, ⟨σ', H', J', q⟩ => exact ⟨σ', H', J'.ofTry ok, q⟩
    | .cont, ⟨σ', H', J', q⟩ => exact ⟨σ', H', J'.ofTry ok, q⟩
    | .ret u, ⟨v, σ', H', J', r, q⟩ => exact ⟨v, σ', H', J'.ofTry ok, r, q⟩
end
end Gx

set_option Elab.async false
set_option linter.all false
set_option maxRecDepth 100000
set_option maxHeartbeats 2000000
namespace Gx
open PySem PySem.Spec PyProof.Rows L2 Evl
section
variable {K : PySem.W.Frag} {H H' : Hp}
mutual
theorem dp_ex (e : Ex H H') : ∀ (d : PyData) (v : V), Dp K H v d → Dp K H' v d
  | .none, _, h => by cases h; exact .non
  | .bool b, _, h => by cases h; exact .bl b
  | .int i, _, h => by cases h; exact .int i
  | .str x, _, h => by cases h; exact .str x
  | .list ds, _, h => by
    cases h with
    | lst hs ha => exact .lst (ex_l e hs) (dpAll_ex e ds _ ha)
  | .tuple ds, _, h => by
    cases h with
    | tup hs ha => exact .tup (ex_t e hs) (dpAll_ex e ds _ ha)
  | .dict _, _, h => by cases h
theorem dpAll_ex (e : Ex H H') : ∀ (ds : List PyData) (vs : List V), DpAll K H vs ds → DpAll K H' vs ds
  | [], _, h => by cases h; exact .nil
  | d :: ds, _, h => by
    cases h with
    | cons h1 h2 => exact .cons (dp_ex e d _ h1) (dpAll_ex e ds _ h2)
end
theorem _root_.L2.Dp.to {v : V} {d : PyData} (h : Dp K H v d) (e : Ex H H') : Dp K H' v d := dp_ex e d v h
theorem _root_.L2.DpAll.to {vs : List V} {ds : List PyData} (h : DpAll K H vs ds) (e : Ex H H') : DpAll K H' vs ds := dpAll_ex e ds vs h
theorem _root_.L2.Dp.tup_inv {v : V} {ds : List PyData} (h : Dp K H v (.tuple ds)) : ∃ a xs, v = .ref a ∧ SqT K H a xs ∧ DpAll K H xs ds := by
  cases h with
  | tup hs ha => exact ⟨_, _, rfl, hs, ha⟩
theorem _root_.L2.Dp.lst_inv {v : V} {ds : List PyData} (h : Dp K H v (.list ds)) : ∃ a xs, v = .ref a ∧ SqL K H a xs ∧ DpAll K H xs ds := by
  cases h with
  | lst hs ha => exact ⟨_, _, rfl, hs, ha⟩
theorem _root_.L2.DpAll.len {vs : List V} {ds : List PyData} (h : DpAll K H vs ds) : vs.length = ds.length := by
  induction ds generalizing vs with
  | nil => cases h; rfl
  | cons d ds ih => cases h with | cons h1 h2 => simp [ih h2]
theorem _root_.L2.DpAll.get {vs : List V} {ds : List PyData} (h : DpAll K H vs ds) {i : Nat} {v : V} (e : vs[i]? = some v) : ∃ d, ds[i]? = some d ∧ Dp K H v d := by
  induction ds generalizing vs i with
  | nil => cases h; simp at e
  | cons d ds ih =>
    cases h with
    | cons h1 h2 =>
      cases i with
      | zero => simp at e; subst e; exact ⟨d, by simp, h1⟩
      | succ i => obtain ⟨d', q1, q2⟩ := ih h2 (i := i) (by simpa using e); exact ⟨d', by simpa using q1, q2⟩
theorem _root_.L2.DpAll.get' {vs : List V} {ds : List PyData} (h : DpAll K H vs ds) {i : Nat} {d : PyData} (e : ds[i]? = some d) : ∃ v, vs[i]? = some v ∧ Dp K H v d := by
  have hl := h.len
  have hi : i < ds.length := (List.getElem?_eq_some_iff.mp e).1
  have hv : vs[i]? = some (vs[i]'(by omega)) := List.getElem?_eq_getElem (by omega)
  obtain ⟨d', q1, q2⟩ := h.get hv
  rw [e] at q1; cases q1
  exact ⟨_, hv, q2⟩
theorem _root_.L2.DpAll.two {vs : List V} {a b : PyData} (h : DpAll K H vs [a, b]) : ∃ x y, vs = [x, y] ∧ Dp K H x a ∧ Dp K H y b := by
  cases h with
  | cons h1 h2 => cases h2 with
    | cons h2 h3 => cases h3; exact ⟨_, _, rfl, h1, h2⟩
theorem _root_.L2.DpAll.app {vs ws : List V} {ds es : List PyData} (h : DpAll K H vs ds) (h' : DpAll K H ws es) : DpAll K H (vs ++ ws) (ds ++ es) := by
  induction ds generalizing vs with
  | nil => cases h; exact h'
  | cons d ds ih => cases h with | cons h1 h2 => exact .cons h1 (ih h2)
theorem _root_.L2.DpAll.one {v : V} {d : PyData} (h : Dp K H v d) : DpAll K H [v] [d] := .cons h .nil
theorem _root_.L2.DpAll.take {vs : List V} {ds : List PyData} (n : Nat) (h : DpAll K H vs ds) : DpAll K H (vs.take n) (ds.take n) := by
  induction ds generalizing vs n with
  | nil => cases h; simp; exact .nil
  | cons d ds ih =>
    cases h with
    | cons h1 h2 =>
      cases n with
      | zero => exact .nil
      | succ n => exact .cons h1 (ih n h2)
theorem dpAll_ints : ∀ ns : List Int, DpAll K H (ns.map V.int) (ns.map PyData.int)
  | [] => .nil
  | n :: ns => .cons (.int n) (dpAll_ints ns)
theorem dpAll_ints_inv : ∀ {ns : List Int} {vs : List V}, DpAll K H vs (ns.map PyData.int) → vs = ns.map V.int
  | [], _, h => by cases h; rfl
  | n :: ns, _, h => by
    cases h with
    | cons h1 h2 => cases h1; rw [dpAll_ints_inv h2]; rfl
end
/-- how many signs repr may take -/
def wide : PyData → Nat
  | .none => 4
  | .bool _ => 5
  | .int _ => 1921
  | .str x => (reprText x).length
  | .list xs => wideAll xs + 2
  | .tuple xs => wideAll xs + 3
  | .dict _ => 0
where wideAll : List PyData → Nat
  | [] => 0
  | x :: xs => wide x + 2 + wideAll xs
theorem listText_wide (ts : List Str) : (listText ts).length ≤ piled ts + 2 := by
  unfold listText
  rw [strLen_append]
  have e1 : ((("]" : String) : Str)).length = 1 := rfl
  have e2 : ((("[" : String) : Str)).length = 1 := rfl
  have : ∀ (ts : List Str) (k : Nat) (acc : Str), (textFrom k acc ts).length ≤ acc.length + piled ts := by
    intro ts
    induction ts with
    | nil => intro k acc; simp [textFrom, piled]
    | cons t ts ih =>
      intro k acc
      unfold textFrom
      refine Nat.le_trans (ih _ _) ?_
      rw [piled_cons]
      have e3 : (((", " : String) : Str)).length = 2 := rfl
      have e4 : ((("" : String) : Str)).length = 0 := rfl
      split <;> (simp only [strLen_append]; omega)
  have h := this ts 0 (("[" : String) : Str)
  omega
theorem tupText_wide (ts : List Str) : (tupleText ts).length ≤ piled ts + 3 := by
  have e3 : (((if ts.length == 1 then ",)" else ")" : String) : Str)).length ≤ 2 := by split <;> decide +kernel
  have e1 : ((("(" : String) : Str)).length = 1 := rfl
  unfold tupleText
  rw [strLen_append, strLen_append, e1]
  by_cases h : ts = []
  · subst h
    have : (Str.join ", " ([] : List Str)).length = 0 := rfl
    omega
  · have := join_length_add ts h
    omega
mutual
theorem shown_wide : ∀ d : PyData, d.showable = true → d.hasDict = false → d.shown.length ≤ wide d
  | .none, _, _ => by simp only [PyData.shown, wide]; decide
  | .bool b, _, _ => by cases b <;> (simp only [PyData.shown, wide]; decide)
  | .int i, h, _ => by
    simp only [PyData.shown, wide]
    exact PyProof.Rows.int_text_len_1921 (of_decide_eq_true (by simpa only [PyData.showable] using h))
  | .str x, _, _ => by simp only [PyData.shown, wide]; exact Nat.le_refl _
  | .list xs, h, h' => by
    simp only [PyData.shown, wide]
    have q := shown_wideAll xs (by simpa only [PyData.showable] using h) (by simpa only [PyData.hasDict] using h')
    exact Nat.le_trans (listText_wide _) (by omega)
  | .tuple xs, h, h' => by
    simp only [PyData.shown, wide]
    have q := shown_wideAll xs (by simpa only [PyData.showable] using h) (by simpa only [PyData.hasDict] using h')
    exact Nat.le_trans (tupText_wide _) (by omega)
  | .dict _, _, h' => by simp [PyData.hasDict] at h'
theorem shown_wideAll : ∀ ds : List PyData, PyData.showableAll ds = true → PyData.hasDictAll ds = false → piled (PyData.shownAll ds) ≤ wide.wideAll ds
  | [], _, _ => by simp [PyData.shownAll, piled, wide.wideAll]
  | d :: ds, h, h' => by
    simp only [PyData.showableAll, Bool.and_eq_true] at h
    simp only [PyData.hasDictAll, Bool.or_eq_false_iff] at h'
    have q1 := shown_wide d h.1 h'.1
    have q2 := shown_wideAll ds h.2 h'.2
    simp only [PyData.shownAll, piled_cons, wide.wideAll]
    omega
end
section
variable {X : Cx}
def rRep (K : PySem.W.Frag) : List V → Hp → VK → Prop := fun xs H Q =>
  ∃ v d, xs = [v] ∧ Dp K H v d ∧ d.showable = true ∧ d.hasDict = false ∧ d.depth ≤ 100 ∧ wide d ≤ 10000000 ∧ Q (.str d.shown) H
theorem big_sz : (10000000 : Nat) ≤ sizeLine := by rw [sizeLine_eq]; decide
theorem call_repD (qu : Quiet X.A) (hu : X.A.units + 200 < cLine) : CallR X (.builtin "repr") (rRep X.K) := by
  intro pins s σ H xs us Q I rv h
  obtain ⟨v, d, rfl, hd, h1, h2, h3, h4, q⟩ := h
  obtain ⟨u, rfl, ru⟩ := vals1 rv
  obtain ⟨as, rd⟩ := Dp.reads I d v u hd ru
  have sz : d.shown.length ≤ sizeLine := Nat.le_trans (shown_wide d h1 h2) (Nat.le_trans h4 big_sz)
  have fin : ∀ h' t tk, (∀ b o, s.heap.get? b = some o → h'.get? b = some o) → EP X pins σ Q (.str d.shown t) { s with heap := h', toks := tk } :=
    fun h' t tk k => ⟨.str _, H, I.kept k, ⟨_, rfl⟩, q⟩
  cases hd with
  | non =>
    obtain rfl : u = Value.none := ru
    exact PySem.P.repr_of_none (fin s.heap _ _ fun _ _ e => e)
  | bl b =>
    obtain rfl : u = Value.bool b := ru
    refine PySem.P.repr_of_bool ?_
    have z := fin s.heap s.toks (s.toks + 1) fun _ _ e => e
    simp only [PyData.shown] at z
    cases b <;> exact z
  | int i =>
    obtain ⟨t, rfl⟩ := ru
    refine PySem.P.repr_of_int (of_decide_eq_true (by simpa only [PyData.showable] using h1)) ?_
    exact fin s.heap _ _ fun _ _ e => e
  | str x =>
    obtain ⟨t, rfl⟩ := ru
    exact PySem.P.repr_of_str (fin s.heap _ _ fun _ _ e => e) sz
  | lst hs ha =>
    obtain rfl : u = Value.ref _ := ru
    exact repr_of_reads' rd h1 (PyData.noDict_hsm h2) qu (by omega) (fun _ _ e => e) (fun h' t tk k => fin h' t tk k) sz
  | tup hs ha =>
    obtain rfl : u = Value.ref _ := ru
    exact repr_of_reads' rd h1 (PyData.noDict_hsm h2) qu (by omega) (fun _ _ e => e) (fun h' t tk k => fin h' t tk k) sz
/-- // by any divisor but 0, of fewer than 9000 bits -/
def CDivZ (_ j : Int) : Prop := j ≠ 0 ∧ j.natAbs.log2 < 9000
theorem op_fdivZ : OpR X (binaryOp .FloorDiv) (rI CDivZ fun i j => .int (i.fdiv j)) := opI fun i j _ _ _ _ _ hc q =>
  floordiv_int hc.1 q (.inl (PyProof.noPylong_of_log2 hc.2))
end
end Gx

set_option Elab.async false
set_option linter.all false
set_option maxRecDepth 100000
set_option maxHeartbeats 2000000
namespace Gx
open PySem PySem.Spec PyProof.Rows L2 Evl
/-! A list of the law's own that calls change, told by what stays true of it: the abstract heap stays as it is. -/
def plainO : HO → Bool
  | .tup _ => false
  | .frz _ _ => false
  | .tbl _ => false
  | .own _ => false
  | _ => true
section
variable {P : Program} {w : World} {H H1 : Hp} {h h' : Heap} {b : Addr} {u u1 u2 : HO} {fs ex : List Addr}
theorem hok_swap (ok : HOk P w H h) (hb : H b = some u) (hp : plainO u = true) (ob : ObjOk P w (upd H b u1) h b u1) :
    HOk P w (upd H b u1) h := by
  intro a o e
  by_cases hab : a = b
  · subst hab
    rw [upd_same] at e
    cases e
    exact ob
  · rw [upd_ne hab] at e
    refine (ok a o e).stay (fun _ _ _ q => q) (fun c q => ?_) (fun c xs q => ?_)
    · rw [upd_ne (fun z => by rw [z, hb] at q; cases q; cases hp)]; exact q
    · rw [upd_ne (fun z => by rw [z, hb] at q; cases q; cases hp)]; exact q
theorem un_seal (hb : H b = some u) (un : Un fs ex (upd H b u1) (upd H b u2) h h') : Un fs ex H H h h' := by
  have nb : ∀ c, H c = none → c ≠ b := fun c n z => by rw [z, hb] at n; cases n
  refine ⟨fun c o q n hc hx => ?_, fun c o q n hc hx => ?_, fun _ _ _ n _ => n, fun c o q hx => un.there c o q hx,
    fun _ _ q => q, fun _ _ _ q => q, fun c ps q => ⟨#[], by rw [q]; simp⟩⟩
  · exact un.keep c o q (by rw [upd_ne (nb c n)]; exact n) hc hx
  · exact un.slot c o q (by rw [upd_ne (nb c n)]; exact n) hc hx
theorem un_new (hb : H1 b = some u) (hp : plainO u = true) (un : Un fs ex H H1 h h') : Un fs ex H (upd H1 b u1) h h' := by
  refine ⟨un.keep, un.slot, fun c o q n hx => ?_, un.there, fun c xs q => ?_, fun c o v q => ?_, fun c ps q => ?_⟩
  · have z := un.free c o q n hx
    rw [upd_ne (fun e => by rw [e, hb] at z; cases z)]; exact z
  · have z := un.tups c xs q
    rw [upd_ne (fun e => by rw [e, hb] at z; cases z; cases hp)]; exact z
  · have z := un.frzs c o v q
    rw [upd_ne (fun e => by rw [e, hb] at z; cases z; cases hp)]; exact z
  · obtain ⟨more, z⟩ := un.tbls c ps q
    exact ⟨more, by rw [upd_ne (fun e => by rw [e, hb] at z; cases z; cases hp)]; exact z⟩
end
theorem upd_self {H : Hp} {b : Addr} {u : HO} (h : H b = some u) : upd H b u = H := by
  funext c
  by_cases e : c = b
  · subst e; rw [upd_same, h]
  · rw [upd_ne e]
/-! ### the bag -/
def BagAt (b l : Addr) (h : Heap) : Prop := ∃ (p q r : Int) (t1 t2 t3 : Tok) (n : Nat),
  h.get? b = some { cls := .type "list", data := .seq #[.int p t1, .int q t2, .int r t3, .ref l] n } ∧
    0 ≤ p ∧ 0 ≤ q ∧ q < 2147483647 ∧ 0 ≤ r
def BagO (b l : Addr) : HO := .ext (BagAt b l)
def bagL (p q r : Int) (l : Addr) : List V := [.int p, .int q, .int r, .ref l]
structure Bag (H : Hp) (b : Addr) : Prop where
  ex : ∃ (l : Addr) (cs : List Int), H b = some (BagO b l) ∧ H l = some (.lst (cs.map V.int)) ∧ ∀ c ∈ cs, 0 ≤ c
theorem Bag.to {H H' : Hp} {b : Addr} (g : Bag H b) (e : Ex H H') : Bag H' b := by
  obtain ⟨l, cs, h1, h2, h3⟩ := g.ex
  exact ⟨l, cs, e _ _ h1, e _ _ h2, h3⟩
theorem bag_objOk {P : Program} {w : World} {H : Hp} {h : Heap} {b l : Addr} (x : BagAt b l h) : ObjOk P w H h b (BagO b l) := by
  refine ⟨x, ?_, fun h1 h2 y k => ?_⟩
  · obtain ⟨p, q, r, t1, t2, t3, n, e, _⟩ := x
    exact ⟨_, e⟩
  · obtain ⟨p, q, r, t1, t2, t3, n, e, z⟩ := y
    exact ⟨p, q, r, t1, t2, t3, n, k _ e, z⟩
theorem bag_open {P : Program} {w : World} {H : Hp} {h : Heap} {b l : Addr} (ok : HOk P w H h) (hb : H b = some (BagO b l)) :
    ∃ p q r : Int, (0 ≤ p ∧ 0 ≤ q ∧ q < 2147483647 ∧ 0 ≤ r) ∧ HOk P w (upd H b (.lst (bagL p q r l))) h := by
  obtain ⟨⟨p, q, r, t1, t2, t3, n, e, z⟩, _⟩ := ok b _ hb
  refine ⟨p, q, r, z, hok_swap ok hb rfl ⟨by show 4 ≤ sizeLine; decide, [.int p t1, .int q t2, .int r t3, .ref l], n, ?_, e⟩⟩
  exact .cons ⟨_, rfl⟩ (.cons ⟨_, rfl⟩ (.cons ⟨_, rfl⟩ (.cons rfl .nil)))
theorem bag_close {P : Program} {w : World} {H : Hp} {h : Heap} {b l : Addr} {p q r : Int} (ok : HOk P w H h)
    (hb : H b = some (.lst (bagL p q r l))) (z : 0 ≤ p ∧ 0 ≤ q ∧ q < 2147483647 ∧ 0 ≤ r) : BagAt b l h := by
  obtain ⟨_, its, n, rv, e⟩ := ok b _ hb
  unfold bagL at rv
  cases rv with
  | cons r1 rv => cases rv with
    | cons r2 rv => cases rv with
      | cons r3 rv => cases rv with
        | cons r4 rv =>
          cases rv
          obtain ⟨t1, rfl⟩ := r1
          obtain ⟨t2, rfl⟩ := r2
          obtain ⟨t3, rfl⟩ := r3
          obtain rfl := r4
          exact ⟨p, q, r, t1, t2, t3, n, e, z⟩
/-- what _law_take promises: some number below many, and nothing that is told has changed -/
def spTake : Sp := fun vs H Q _ => ∃ (b : Addr) (many : Int), vs = [.ref b, .int many] ∧ Bag H b ∧ 0 < many ∧ many < 1073741824 ∧
  ∀ x : Int, 0 ≤ x → x < many → Q (.int x) H
/-- .. and what its body does to the list -/
def spTakeI : Sp := fun vs H Q _ => ∃ (b l : Addr) (many p q r : Int) (cs : List Int), vs = [.ref b, .int many] ∧
  H b = some (.lst (bagL p q r l)) ∧ H l = some (.lst (cs.map V.int)) ∧ b ≠ l ∧ (∀ c ∈ cs, 0 ≤ c) ∧
  (0 ≤ p ∧ 0 ≤ q ∧ q < 2147483647 ∧ 0 ≤ r) ∧ 0 < many ∧ many < 1073741824 ∧
  ∀ x p' q' r' : Int, 0 ≤ x → x < many → (0 ≤ p' ∧ 0 ≤ q' ∧ q' < 2147483647 ∧ 0 ≤ r') →
    Q (.int x) (upd H b (.lst (bagL p' q' r' l)))
def spBag (K : PySem.W.Frag) : Sp := fun vs H Q _ => ∃ (a : Addr) (ns : List Int), vs = [.ref a] ∧ SqL K H a (ns.map V.int) ∧ ns.length ≤ 1000 ∧
  ∀ b H', Ex H H' → Bag H' b → Q (.ref b) H'
def spBagI (K : PySem.W.Frag) : Sp := fun vs H Q _ => ∃ (a : Addr) (ns : List Int), vs = [.ref a] ∧ SqL K H a (ns.map V.int) ∧ ns.length ≤ 1000 ∧
  ∀ (b l : Addr) (cs : List Int) (H' : Hp), Ex H H' → H b = none → H' b = some (.lst (bagL 0 1234567891 0 l)) →
    H' l = some (.lst (cs.map V.int)) → (∀ c ∈ cs, 0 ≤ c) → Q (.ref b) H'
section
variable {P : Program} {w : World} {K : PySem.W.Frag} {mg : Str → Option Value} {base : Heap} {k : Nat} {f : Addr} {fd : FuncData}
theorem take_sealed (F : FnOk P w K mg base CX0 k f fd ["_law_bag_here", "_law_many"] spTakeI) :
    FnOk P w K mg base CX0 k f fd ["_law_bag_here", "_law_many"] spTake := by
  refine ⟨fun vs H Q E h => ?_, fun A outer s H args us vs Q E rm e0 bd rv h => ?_⟩
  · obtain ⟨b, many, rfl, _⟩ := h; rfl
  · obtain ⟨b, many, rfl, ⟨l, cs, hb, hl, hc⟩, m0, m1, kq⟩ := h
    obtain ⟨p, q, r, z, ok1⟩ := bag_open e0.hok hb
    have nbl : b ≠ l := fun e => by rw [e, hl] at hb; cases hb
    have e1 : Env0 P w K mg base A outer s (upd H b (.lst (bagL p q r l))) := by
      refine ⟨e0.frames, e0.mod, fun c o q => ?_, e0.bsz, e0.funs, fun c hc => ?_, ok1, e0.bare⟩
      · obtain ⟨x1, x2⟩ := e0.bs c o q
        exact ⟨x1, by rw [upd_ne (fun e => by rw [e, hb] at x2; cases x2)]; exact x2⟩
      · have x2 := e0.frf c hc
        rw [upd_ne (fun e => by rw [e, hb] at x2; cases x2)]; exact x2
    refine codeAny_mono (F.run A outer s _ args us [.ref b, .int many]
      (fun v H' => ∃ (x p' q' r' : Int), v = .int x ∧ 0 ≤ x ∧ x < many ∧ (0 ≤ p' ∧ 0 ≤ q' ∧ q' < 2147483647 ∧ 0 ≤ r') ∧ H' = upd (upd H b (.lst (bagL p q r l))) b (.lst (bagL p' q' r' l)))
      E rm e1 bd rv ⟨b, l, many, p, q, r, cs, rfl, upd_same, by rw [upd_ne nbl.symm]; exact hl, nbl, hc, z, m0, m1,
        fun x p' q' r' h0 h1 zz => ⟨x, p', q', r', rfl, h0, h1, zz, rfl⟩⟩) ?_
    intro r s' hq
    match r, hq with
    | .ok (.ret u), ⟨v, H', os, bare, un, ok', rv', x, p', q', r', ev, h0, h1, zz, eH⟩ =>
      subst eH
      rw [upd_upd] at un ok'
      have at_ := bag_close ok' upd_same zz
      have ok2 := hok_swap (u1 := BagO b l) ok' upd_same rfl (bag_objOk at_)
      rw [upd_upd, upd_self hb] at ok2
      exact ⟨v, H, os, bare, un_seal hb un, ok2, rv', by rw [ev]; exact kq x h0 h1⟩
theorem bag_sealed (F : FnOk P w K mg base CX0 k f fd ["_law_script"] (spBagI K)) : FnOk P w K mg base CX0 k f fd ["_law_script"] (spBag K) := by
  refine ⟨fun vs H Q E h => ?_, fun A outer s H args us vs Q E rm e0 bd rv h => ?_⟩
  · obtain ⟨a, ns, rfl, _⟩ := h; rfl
  · obtain ⟨a, ns, rfl, hs, hl, kq⟩ := h
    refine codeAny_mono (F.run A outer s H args us [.ref a]
      (fun v H' => ∃ (b l : Addr) (cs : List Int), v = .ref b ∧ Ex H H' ∧ H b = none ∧ H' b = some (.lst (bagL 0 1234567891 0 l)) ∧
        H' l = some (.lst (cs.map V.int)) ∧ (∀ c ∈ cs, 0 ≤ c))
      E rm e0 bd rv ⟨a, ns, rfl, hs, hl, fun b l cs H' x1 x2 x3 x4 x5 => ⟨b, l, cs, rfl, x1, x2, x3, x4, x5⟩⟩) ?_
    intro r s' hq
    match r, hq with
    | .ok (.ret u), ⟨v, H', os, bare, un, ok', rv', b, l, cs, ev, ex, nb, hb, hl', hc⟩ =>
      have at_ := bag_close ok' hb ⟨by decide, by decide, by decide, by decide⟩
      have ok2 := hok_swap (u1 := BagO b l) ok' hb rfl (bag_objOk at_)
      have nbl : l ≠ b := fun e => by rw [e, hb] at hl'; injection hl' with e1; injection e1 with e2; cases cs with
        | nil => cases e2
        | cons c cs => cases cs with
          | nil => cases e2
          | cons c2 cs => cases cs with
            | nil => cases e2
            | cons c3 cs => cases cs with
              | nil => cases e2
              | cons c4 cs => cases e2
      refine ⟨v, _, os, bare, un_new hb rfl un, ok2, rv', ?_⟩
      subst ev
      refine kq b _ (ex.mut nb) ⟨l, cs, upd_same, by rw [upd_ne nbl]; exact hl', hc⟩
end
end Gx

set_option Elab.async false
set_option linter.all false
set_option maxRecDepth 100000
set_option maxHeartbeats 2000000
namespace Gx
open PySem PySem.Spec PyProof.Rows L2 Evl
/-- the built-in names that the text uses are still the built-in ones -/
structure Bi (mg : Str → Option Value) : Prop where
  len : mg "len" = none
  abs : mg "abs" = none
  max : mg "max" = none
  min : mg "min" = none
  repr : mg "repr" = none
  int : mg "int" = none
  tuple : mg "tuple" = none
  list : mg "list" = none
  dict : mg "dict" = none
  isinstance : mg "isinstance" = none
  sorted : mg "sorted" = none
  sum : mg "sum" = none
  all : mg "all" = none
  any : mg "any" = none
  range : mg "range" = none
  enumerate : mg "enumerate" = none
  zip : mg "zip" = none
  bool : mg "bool" = none
  str : mg "str" = none
  set : mg "set" = none
theorem bt_len : bootBuiltins "len" = some (.builtin "len") := by decide +kernel
theorem bt_abs : bootBuiltins "abs" = some (.builtin "abs") := by decide +kernel
theorem bt_max : bootBuiltins "max" = some (.builtin "max") := by decide +kernel
theorem bt_min : bootBuiltins "min" = some (.builtin "min") := by decide +kernel
theorem bt_repr : bootBuiltins "repr" = some (.builtin "repr") := by decide +kernel
theorem bt_int : bootBuiltins "int" = some (.type "int") := by decide +kernel
theorem bt_tuple : bootBuiltins "tuple" = some (.type "tuple") := by decide +kernel
theorem bt_list : bootBuiltins "list" = some (.type "list") := by decide +kernel
theorem bt_dict : bootBuiltins "dict" = some (.type "dict") := by decide +kernel
theorem bt_isinstance : bootBuiltins "isinstance" = some (.builtin "isinstance") := by decide +kernel
theorem bt_sorted : bootBuiltins "sorted" = some (.builtin "sorted") := by decide +kernel
theorem bt_sum : bootBuiltins "sum" = some (.builtin "sum") := by decide +kernel
theorem bt_all : bootBuiltins "all" = some (.builtin "all") := by decide +kernel
theorem bt_bool : bootBuiltins "bool" = some (.type "bool") := by decide +kernel
theorem bt_str : bootBuiltins "str" = some (.type "str") := by decide +kernel
theorem bt_set : bootBuiltins "set" = some (.type "set") := by decide +kernel
theorem bt_any : bootBuiltins "any" = some (.builtin "any") := by decide +kernel
/-- a def of the top as the head leaves it -/
structure Def (K : PySem.W.Frag) (mg : Str → Option Value) (x : Str) (st : Stmt) (f : Addr) (fd : FuncData) (ps : List Str) : Prop where
  fn : Fun K x x st f fd
  mg : mg x = some (.ref f)
  bd : Binds K fd ps []
/-- .. by what the head tells of it -/
def IsDef (K : PySem.W.Frag) (x qual : Str) (st : Stmt) (f : Addr) : Prop :=
  ∃ (oc : Value) (od : Option Addr) (kV doc pm : Value) (an : Option Addr) (cdv ct : Value) (osl : Array (Option Value)),
    K.lookup f = some ⟨oc, od, .func (PySem.W.fnOf x qual (defArgs st) (defBody st) (defScope st) .none kV doc pm an cdv ct), osl⟩ ∧
      PySem.W.codeIn K cdv qual = true ∧ PySem.W.keepIn K (.ref f) = true
theorem IsDef.fn {K : PySem.W.Frag} {x qual : Str} {st : Stmt} {f : Addr} (d : IsDef K x qual st f) : ∃ fd, Fun K x qual st f fd := by
  obtain ⟨oc, od, kV, doc, pm, an, cdv, ct, osl, l, c, k⟩ := d
  exact ⟨_, fun_mk l c k⟩
theorem def_mk {K : PySem.W.Frag} {h : Heap} {mg : Str → Option Value} {x : Str} {st : Stmt} {f : Addr} {ps : List Str}
    (X : K.In h) (G : h.Ns mainGlobals mg) (a : PySem.W.nsIn K mainGlobals x = some (some (.ref f))) (d : IsDef K x x st f)
    (hb : ∀ (kV doc pm : Value) (an : Option Addr) (cdv ct : Value) (us : List Value), us.length = ps.length →
      bindArgs (PySem.W.fnOf x x (defArgs st) (defBody st) (defScope st) .none kV doc pm an cdv ct) ⟨us, []⟩ = pure (ps.zip us)) :
    ∃ fd, Def K mg x st f fd ps := by
  obtain ⟨fd, F⟩ := d.fn
  exact ⟨fd, F, PySem.W.mg_of X G a, F.binds hb⟩
/-- a quiet def from which no exception leaves -/
theorem fnq_ok {P : Program} {w : World} {K : PySem.W.Frag} {mg : Str → Option Value} {base : Heap}
    {x qual : Str} {st : Stmt} {f : Addr} {fd : FuncData} {N ps : List Str} {k : Nat} {sp : Sp}
    (F : Fun K x qual st f fd) (S : FnScope N ps (defScope st))
    (len : ∀ vs H Q E, sp vs H Q E → vs.length = ps.length)
    (walk : ∀ (cdv : Value) (A : Around) (outer : List Env) (s : Shared) (H : Hp) (vs : List V) (Q : VK) (E : XK),
      Room k (A.deeper (envOfC qual (defScope st) s.heap.objs.size f cdv)) →
      Quiet (A.deeper (envOfC qual (defScope st) s.heap.objs.size f cdv)) → sp vs H Q E →
      ∃ t, PSs (cxOf CX0 P w K mg base N qual (defScope st) f cdv A outer s H E).nox (defBody st) t ∧
        t { nx := fun _ H' => Q .non H', rt := Q } (start N vs) H) :
    FnQ P w K mg base CX0 (k + 1) f fd ps sp :=
  fnq_of F S len fun cdv A outer s H vs Q E rm qu h =>
    let ⟨t, a, b⟩ := walk cdv A outer s H vs Q E rm qu h
    ⟨t, a.nox, b⟩
section
variable {X : Cx}
def rGetL (K : PySem.W.Frag) : V → V → Hp → VK → Prop := fun o i H Q => ∃ p xs k v, o = .ref p ∧ i = .int k ∧ SqL K H p xs ∧
  0 ≤ k ∧ k < 1000000 ∧ xs[k.toNat]? = some v ∧ Q v H
theorem get_list : PGet X (rGetL X.K) := by
  intro pins s σ H o i ov iv Q I ro ri h
  obtain ⟨p, xs, k, v, rfl, rfl, hs, h0, h1, hx, q⟩ := h
  obtain rfl : ov = Value.ref p := ro
  obtain ⟨t, rfl⟩ := ri
  obtain ⟨its, r, pl, hz⟩ := I.list hs
  obtain ⟨u, hu, ru⟩ := r.get hx
  exact wpAny_getItem_list pl.isList h0 (by omega) (by simpa using hu) ⟨v, H, I, ru, q⟩
end
theorem ex_upd {H H' : Hp} {p : Addr} {o : HO} (e : Ex H H') (n : H' p = none) : Ex H (upd H' p o) := e.trans (Ex.new n)
/-- a test read out -/
theorem if_d {c A B : Prop} [Decidable c] (h1 : c → A) (h2 : ¬ c → B) : if decide c = true then A else B := by
  by_cases h : c
  · rw [if_pos (decide_eq_true h)]; exact h1 h
  · rw [if_neg (by rw [decide_eq_false h]; exact Bool.false_ne_true)]; exact h2 h
theorem if_nd {c A B : Prop} [Decidable c] (h1 : ¬ c → A) (h2 : c → B) : if (!decide c) = true then A else B := by
  by_cases h : c
  · rw [decide_eq_true h]; exact iteF (h2 h)
  · rw [decide_eq_false h]; exact iteT (h1 h)
theorem V_int_eq {a b : Int} : (V.int a = V.int b) = (a = b) := propext ⟨fun h => V.int.inj h, fun h => by rw [h]⟩
theorem atI_of {α : Type} {xs : List α} {i : Int} {v : α} (h0 : 0 ≤ i) (h : xs[i.toNat]? = some v) : atI xs i = some v := by
  have hl := (List.getElem?_eq_some_iff.mp h).1
  unfold atI ixN
  rw [if_pos h0, if_pos (by omega)]
  exact h
theorem get_of {α : Type} {xs : List α} {i : Int} (h0 : 0 ≤ i) (h1 : i < xs.length) : ∃ v, xs[i.toNat]? = some v ∧ v ∈ xs := by
  have hl : i.toNat < xs.length := by omega
  exact ⟨xs[i.toNat], List.getElem?_eq_getElem hl, List.getElem_mem hl⟩
end Gx

set_option Elab.async false
set_option linter.all false
set_option maxRecDepth 100000
set_option maxHeartbeats 2000000
namespace Gx
open PySem PySem.Spec PyProof.Rows L2 Evl
/-- a tuple of which the very object is known: it has no dict of its own -/
def ExT (H : Hp) (a : Addr) (xs : List V) : Prop := ∃ o : Obj, H a = some (.frz o (.tup xs)) ∧ o.dict = none
theorem ExT.sq {K : PySem.W.Frag} {H : Hp} {a : Addr} {xs : List V} (x : ExT H a xs) : SqT K H a xs := by
  obtain ⟨o, h, _⟩ := x
  exact .inl (.inr ⟨o, h⟩)
theorem ExT.to {H H' : Hp} {a : Addr} {xs : List V} (x : ExT H a xs) (e : Ex H H') : ExT H' a xs := by
  obtain ⟨o, h, d⟩ := x
  exact ⟨o, e _ _ h, d⟩
section
variable {X : Cx}
/-- tuple(xs) of a list, the new object known -/
def rTupX (K : PySem.W.Frag) : List V → Hp → VK → Prop := fun xs H Q => ∃ (p : Addr) (ys : List V), xs = [.ref p] ∧ SqL K H p ys ∧
  ∀ l H', H l = none → Ex H H' → ExT H' l ys → Q (.ref l) H'
theorem call_tupX : CallR X (.type "tuple") (rTupX X.K) := by
  intro pins s σ H xs us Q I rv h
  obtain ⟨p, ys, rfl, hq, q⟩ := h
  obtain ⟨u, rfl, ru⟩ := vals1 rv
  obtain rfl : u = Value.ref p := ru
  obtain ⟨its, r', pl, hz⟩ := I.list hq
  have hlen := r'.length
  refine call_tuple_list pl.isList (fun h' kp => ?_) (by simp only [List.size_toArray] <;> omega)
  have I1 : Inv X pins σ H { s with heap := h' } := I.kept (t' := s.toks) kp
  have hn : H h'.objs.size = none := I1.hok.fresh (Nat.le_refl _)
  have I2 := I1.laid (t' := s.toks) (a := h'.objs.size) (o := .frz { cls := .type "tuple", data := .seq its.toArray } (.tup ys))
    (h' := h'.push { cls := .type "tuple", data := .seq its.toArray }) (fun b o e => Heap.get?_push_of_some _ e) (Nat.le_refl _)
    ⟨Heap.get?_push_size _ rfl, hz, its, r', IsTup.new _ _⟩
  exact ⟨.ref h'.objs.size, _, I2, rfl, q _ _ hn (Ex.new hn) ⟨_, upd_same, rfl⟩⟩
/-- dict(t) of a tuple of pairs whose keys are ints or texts -/
def rDictT (K : PySem.W.Frag) : List V → Hp → VK → Prop := fun xs H Q => ∃ (a : Addr) (ps : List Addr) (kvs : List (Key × V)), xs = [.ref a] ∧
  ExT H a (ps.map V.ref) ∧ Paired (fun p kv => SqT K H p [kV kv.1, kv.2]) ps kvs ∧ ∀ p, H p = none → Q (.ref p) (upd H p (.dK (mergeK [] kvs)))
theorem call_dictT (hcalm : X.calm = true) : CallR X (.type "dict") (rDictT X.K) := by
  intro pins s σ H xs us Q I rv h
  obtain ⟨a, ps, kvs, rfl, ⟨o, ho, hd⟩, hp, q⟩ := h
  obtain ⟨u, rfl, ru⟩ := vals1 rv
  obtain rfl : u = Value.ref a := ru
  obtain ⟨he, hz, its, r', ⟨o', e', hc, n, hdat⟩⟩ := I.hok a _ ho
  rw [he] at e'
  cases e'
  have ei := refs_at r'
  subst ei
  rw [List.length_map] at hz
  obtain ⟨prs, rel, hl, hpr⟩ := pairs_of I hp
  -- the keys as they stand in the heap
  have key : ∀ j : Nat, j < prs.length → ∃ kv : Value × Value, ∃ b, ps[j]? = some b ∧ IsTup s.heap b #[kv.1, kv.2] ∧
      ∃ q, prs[j]? = some q ∧ q.2 = kv.2 ∧ keyIs q.1 kv.1 = true := by
    intro j hj
    obtain ⟨b, u, e1, e2, e3⟩ := hpr j _ (List.getElem?_eq_getElem hj)
    exact ⟨(u, prs[j].2), b, e1, e2, _, List.getElem?_eq_getElem hj, rfl, e3⟩
  let ws : List (Value × Value) := List.ofFn fun j : Fin prs.length => (key j.1 j.2).choose
  have hws : ws.length = prs.length := List.length_ofFn
  have wsAt : ∀ j (hj : j < prs.length), ws[j]? = some (key j hj).choose := by
    intro j hj
    rw [List.getElem?_eq_getElem (by rw [hws]; exact hj)]
    exact congrArg some (List.getElem_ofFn (by rw [hws]; exact hj))
  refine PySem.call_dict_pairs (kvs := prs) (knd := mixKind X.prog X.w)
    (PySem.PairArg.tuple a (ps.map Value.ref).toArray (fun j => ps.getD j 0) ws) (I.ok.hd hcalm) ⟨⟨o, n, he, hc, hd, hdat⟩, ?_, ?_⟩ ⟨hws.symm, ?_⟩ ?_ ?_
  · rw [hws, hl]; simp
  · intro j k v hj
    have hjl : j < prs.length := by rw [← hws]; exact (List.getElem?_eq_some_iff.mp hj).1
    rw [wsAt j hjl] at hj
    obtain ⟨b, e1, e2, _⟩ := (key j hjl).choose_spec
    have e0 := Option.some.inj hj
    rw [e0] at e2
    refine ⟨?_, .inl ?_⟩
    · simp [e1]
    · have e3 : ps.getD j 0 = b := by simp [e1]
      show s.heap.IsTuple (ps.getD j 0) #[k, v]
      rw [e3]
      exact e2
  · intro i k v hr
    have hr' : ws[i]? = some (k, v) := hr
    have hil : i < prs.length := by rw [← hws]; exact (List.getElem?_eq_some_iff.mp hr').1
    rw [wsAt i hil] at hr'
    have e0 := Option.some.inj hr'
    obtain ⟨b, e1, e2, z, e3, e4, e5⟩ := (key i hil).choose_spec
    rw [e0] at e4 e5
    obtain ⟨z1, z2⟩ := z
    simp only at e4 e5
    subst e4
    exact ⟨z1, e3, e5⟩
  · rw [hws, hl]; exact hz
  · intro h' tk hd' k'
    have hm : (s.heap.objs.size == sysModules) = false := beq_eq_false_iff_ne.mpr (Nat.ne_of_gt I.big)
    have hlen : (mergeK [] kvs).length ≤ sizeLine := by
      refine Nat.le_trans (length_mergeK kvs []) ?_
      rw [List.length_nil, Nat.zero_add, rel.length, hl]
      exact hz
    have kk : ∀ b o, s.heap.get? b = some o → h'.get? b = some o := fun b o e => k' b o (by simp) e
    have I2 := I.laid (t' := tk) (a := s.heap.objs.size) (o := .dK (mergeK [] kvs)) kk (Nat.le_refl _) ⟨hlen, hm, merged [] prs, KV.merge rel .nil, hd'⟩
    exact ⟨.ref s.heap.objs.size, _, I2, rfl, q _ (I.hok.fresh (Nat.le_refl _))⟩
end
/-- a dict of pairs with different keys, looked up -/
theorem valV_merge : ∀ (kvs acc : List (Key × V)) (k : Key), (∀ kv ∈ kvs, valV acc kv.1 = none) → (kvs.map (·.1)).Nodup →
    valV (mergeK acc kvs) k = match valV kvs k with | some v => some v | none => valV acc k
  | [], acc, k, _, _ => rfl
  | kv :: r, acc, k, h, nd => by
    rw [List.map_cons, List.nodup_cons] at nd
    have e : mergeK acc (kv :: r) = mergeK (putK acc kv.1 kv.2) r := rfl
    rw [e, valV_merge r (putK acc kv.1 kv.2) k (fun z hz => ?_) nd.2]
    · rw [valV_put]
      by_cases hk : kv.1 = k
      · rw [valV_pos hk, if_pos hk.symm]
        have : valV r k = none := by
          cases q : valV r k with
          | none => rfl
          | some v => exact absurd (by rw [hk]; exact valV_in q) nd.1
        rw [this]
      · rw [valV_neg hk, if_neg (fun e => hk e.symm)]
    · rw [valV_put, if_neg (fun e => nd.1 (by rw [← e]; exact List.mem_map_of_mem hz))]
      exact h z (List.mem_cons_of_mem _ hz)
end Gx

set_option Elab.async false
set_option linter.all false
set_option maxRecDepth 100000
set_option maxHeartbeats 2000000
namespace PySem
open AutoSeq1 (wpAny_loadPart')
/-- enumerate(t) of a tuple -/
theorem gx_enum_new (l : Addr) (items : Array Value) (n : Nat) (dct : Option Addr) (sl : Array (Option Value)) :
    Meets (Builtin.«enumerate.__new__» ⟨[.type "enumerate", .ref l], []⟩) (fun _ R s =>
      s.heap.get? l = some { cls := .type "tuple", dict := dct, data := .seq items n, slots := sl } ∧
      R (.ok (.ret (.ref (s.heap.push { cls := .type "tuple_iterator", data := .fields #[.ref l, .int 0 0] }).objs.size)))
        { s with heap := (s.heap.push { cls := .type "tuple_iterator", data := .fields #[.ref l, .int 0 0] }).push { cls := .type "enumerate", data := .fields #[.none, .bool false, .ref s.heap.objs.size, rawInt 0, .none, .none] } }) := by
  refine .of_wp fun prog w A R s h => ?_
  obtain ⟨hp, g, d, tk, os⟩ := s
  obtain ⟨hl, h⟩ := h
  have sb := sub_enumerate
  have tT : Heap.IsTuple (Shared.heap ⟨hp, g, d, tk, os⟩) l items := ⟨_, hl, rfl, n, rfl⟩
  wp_walk using wpAny_loadPart' hl
  refine wpAny_stack_any fun st => wpAny_pure ?_
  split
  · rename_i c _ _ _ _ _
    cases (c == Value.type "enumerate") <;>
      (wp_walk using wpAny_loadPart' hl, wpAny_pyIter_tuple tT; exact ⟨_, rfl, h⟩)
  · wp_walk using wpAny_loadPart' hl, wpAny_pyIter_tuple tT
    exact ⟨_, rfl, h⟩
section
variable {prog : Program} {w : World} {A : Around} {E : Value → Shared → Prop} {s : Shared}
theorem gx_call_enum {l : Addr} {items : Array Value} {Q : Value → Shared → Prop} (hL : s.heap.IsTuple l items)
    (h : ∀ h', IsEnum h' (s.heap.objs.size + 1) s.heap.objs.size 0 .none → h'.IsTupleIter s.heap.objs.size l 0 →
      (∀ b o, s.heap.get? b = some o → h'.get? b = some o) → Q (.ref (s.heap.objs.size + 1)) { s with heap := h' }) :
    wpAny (model prog w) A (call (.type "enumerate") [.ref l]) Q E s := by
  obtain ⟨⟨c, dct, dt, sl⟩, hl, hc, n, hd⟩ := hL
  obtain rfl : c = .type "tuple" := hc
  obtain rfl : dt = .seq items n := hd
  refine callType_new F.called_enumerate (by decide) (F.typeCall_enumerate_1 _) (F.newCall_enumerate_1 _)
    (fun obj => F.args_object_init_2 obj _) F.entry_enumerate_new (gx_enum_new l items n dct sl) ⟨hl, ?_⟩
  have sz : (s.heap.push { cls := .type "tuple_iterator", data := .fields #[.ref l, .int 0 0] }).objs.size = s.heap.objs.size + 1 := Heap.size_push ..
  have at1 := Heap.get?_push_size (s.heap.push { cls := .type "tuple_iterator", data := .fields #[.ref l, .int 0 0] })
    (o := { cls := .type "enumerate", data := .fields #[.none, .bool false, .ref s.heap.objs.size, rawInt 0, .none, .none] }) rfl
  show _ ∧ _
  rw [sz] at at1 ⊢
  refine ⟨⟨_, at1, rfl⟩, h _ at1 ⟨_, Heap.get?_push_of_some _ (Heap.get?_push_size _ rfl), rfl, rfl⟩ ?_⟩
  exact fun b o x => Heap.get?_push_of_some _ (Heap.get?_push_of_some _ x)
end
end PySem
namespace Gx
open PySem PySem.Spec PyProof.Rows L2 Evl
/-- the tuple at a, each item in a new pair with its number -/
def Iet (K : PySem.W.Frag) (a : Addr) : It where
  go := fun i H => ∃ (xs : List V) (x : V), SqT K H a xs ∧ xs[i]? = some x
  yld := fun i H v H' => ∃ T x, v = .ref T ∧ H T = none ∧ H' = upd H T (.tup [.int (i : Nat), x]) ∧ ∀ xs, SqT K H a xs → xs[i]? = some x
  stop := fun i H => ∃ xs : List V, SqT K H a xs ∧ xs.length ≤ i
theorem turn_enumT {P : Program} {w : World} {K : PySem.W.Frag} {elts : List Expr} {kk : Nat} {tpos : Pos} (a e it : Addr) (nt : a ≠ it) :
    Turn P w K (.Tuple elts kk tpos) (Iet K a) [e, it] e
      (fun i h => (∃ old, IsEnum h e it ((i : Nat) : Int) old) ∧ h.IsTupleIter it a i ∧ e ≠ it ∧ e ≠ a) := by
  refine ⟨by simp, fun i h st b hb => ?_, fun i h h' st k => ?_, ?_, ?_, fun A i s Q E st h => ?_⟩
  · obtain ⟨⟨old, he⟩, ⟨o, ho, hc, hd⟩, _⟩ := st
    rcases List.mem_cons.mp hb with z | z
    · subst z; exact ⟨_, he, fun v q => nomatch q⟩
    · rw [List.mem_singleton] at z; subst z; exact ⟨o, ho, fun v q => by rw [hd] at q; cases q⟩
  · obtain ⟨⟨old, he⟩, hi, hne⟩ := st
    exact ⟨⟨old, k e (by simp) _ he⟩, hi.at fun o q => k it (by simp) o q, hne⟩
  · intro X hP hw hK hc i pins s σ H E I hf st hg
    subst hP hw hK
    obtain ⟨⟨old, he⟩, hit, hne, hea⟩ := st
    obtain ⟨xs, x, hq, hx⟩ := hg
    obtain ⟨its, rv, tp, hz⟩ := I.tuple hq
    obtain ⟨u, hu, ru⟩ := rv.get hx
    have el : e < s.heap.objs.size := Heap.lt_size he
    have il : it < s.heap.objs.size := by obtain ⟨_, q, _⟩ := hit; exact Heap.lt_size q
    have D := Draws.tuple (prog := X.prog) (w := X.w) (A := X.A.in1) (I.ok.hd hc) it a nt its.toArray
    refine wpAny_pyNext_enum_itemD D he ⟨hit, tp⟩ (by have := (List.getElem?_eq_some_iff.mp hu).1; simpa using this) hne (by simp [hne, hea]) ?_
    intro y h' tk hy ho st' hT hsz hk
    have yu : y = u := by
      have hy' : its.toArray[i]? = some y := hy
      rw [List.getElem?_toArray, hu] at hy'
      exact (Option.some.inj hy').symm
    subst yu
    refine ⟨_, rfl, wpAny_letOwnedTupleGo_enum (s := { s with heap := h', toks := tk + 1 }) ho fun h'' he' sb => ?_⟩
    have hT2 := (sb.2 _ (Nat.ne_of_gt el)).trans hT
    have ob : ObjOk X.prog X.w (upd H s.heap.objs.size (.tup [.int (i : Nat), x])) h'' s.heap.objs.size (.tup [.int (i : Nat), x]) :=
      ⟨by show 2 ≤ sizeLine; decide, [.int i tk, y], .cons ⟨_, rfl⟩ (.cons ru .nil), ⟨_, hT2, rfl, _, rfl⟩⟩
    have I1 := I.turnedNew (ch := [e, it]) (t' := tk + 1) (fun b ob hb q => (sb.2 b (fun z => hb (by simp [z]))).trans
      (hk b ob (fun z => hb (by simp [z])) (fun z => hb (by simp [z])) q)) hf (Nat.le_refl _) ob
    refine ⟨.ref s.heap.objs.size, _, I1, rfl, ⟨_, x, rfl, I.hok.fresh (Nat.le_refl _), rfl, fun ys hy => by rw [I.tuple_inj hy hq]; exact hx⟩,
      ⟨⟨y, ?_⟩, st'.1.at fun o q => (sb.2 it (Ne.symm hne)).trans q, hne, hea⟩, fun b hb => ?_⟩
    · have e1 : ((i + 1 : Nat) : Int) = (i : Int) + 1 := by omega
      rw [e1]; exact he'
    · have bl : b < s.heap.objs.size := by
        rcases List.mem_cons.mp hb with z | z
        · subst z; exact el
        · rw [List.mem_singleton] at z; subst z; exact il
      rw [upd_ne (Nat.ne_of_lt bl)]
      exact (hf b hb).1
  · intro X hP hw hK hc i pins s σ H E I hf st hg
    subst hP hw hK
    obtain ⟨⟨old, he⟩, hit, hne, hea⟩ := st
    obtain ⟨xs, hq, hx⟩ := hg
    obtain ⟨its, rv, tp, hz⟩ := I.tuple hq
    obtain ⟨f0, f1, f2, f3, f4, f5⟩ := hf it (by simp)
    have ll := rv.length
    unfold pyNext
    have hT : s.TypeIs (.ref e) "enumerate" := ⟨_, he, rfl⟩
    refine wpAny_bind (wpAny_attempt (wpAny_callSpecial?_slot (name := Str.ofString "__next__") hT F.slot_enumerate_next
      (wpAny_call_entry F.slot_enumerate_next hT F.entry_enumerate_next ?_ (F.args_enumerate_next_1 _))))
    show wpAny _ _ (field (.ref e) 2 >>= _) _ _ _
    refine wpAny_bind (wpAny_field he rfl (x := .ref it) rfl ?_)
    refine wpAny_bind (wpAny_nextOf_tuple_end (I.ok.hd hc) hit tp (by simp; omega) fun h' x he' hx' => ?_)
    obtain ⟨o, ho, hcc⟩ := hx'
    refine wpAny_bind (wpAny_isInstance (T := "StopIteration") (b := true) ⟨o, ho, hcc⟩ isSubtype_stop ?_)
    exact wpAny_pure ⟨rfl, I.turned (t' := s.toks) (fun b o hb q => he' b o hb q) f0 f1 f3 f4 f5⟩
  · obtain ⟨⟨_, he⟩, _⟩ := st
    exact wpAny_pyIter_enum he h
def iEnumT (K : PySem.W.Frag) (ta : TA) : TI := fun σ H R => ta σ H fun vs H1 => ∃ a xs, vs = [.ref a] ∧ SqT K H1 a xs ∧ R (Iet K a) H1
theorem pi_enumT {X : Cx} {e : Expr} {ta : TA} {p pos tpos : Pos} {elts : List Expr} {kk : Nat} (hg : Gl X "enumerate")
    (hm : X.mg "enumerate" = none) (ha : PA X [e] ta) (hs : starEach [e] X.env = [(false, eval e X.env)] := by rfl) :
    PI X (.Tuple elts kk tpos) (.Call (.Name "enumerate" p) [e] [] pos) (iEnumT X.K ta) := by
  constructor
  intro pins s σ H R I h
  refine Call_ (ld_blt I hg hm boot_enumerate (PyProof.Rows.callWith_type1 (thn (ha.run pos pins s σ H _ I h) ?_) hs rfl))
  rintro us s1 ⟨vs, H1, I1, rv, a, xs, rfl, hq, q⟩
  obtain ⟨u, rfl, ru⟩ := vals1 rv
  obtain rfl : u = Value.ref a := ru
  obtain ⟨its, rv', tp, hz⟩ := I1.tuple hq
  have al : a < s1.heap.objs.size := tp.lt
  refine gx_call_enum tp fun h' he hit hk => wpAny_pyIter_enum he ?_
  have I2 : Inv X pins σ H1 { s1 with heap := h' } := I1.kept (t' := s1.toks) hk
  refine ⟨s1.heap.objs.size + 1, [s1.heap.objs.size + 1, s1.heap.objs.size], _, _, H1, rfl, I2,
    turn_enumT a (s1.heap.objs.size + 1) s1.heap.objs.size (Nat.ne_of_lt al),
    ⟨⟨.none, he⟩, hit, Nat.succ_ne_self _, Nat.ne_of_gt (Nat.lt_succ_of_lt al)⟩, fun b hb => ?_, q⟩
  have hle : s1.heap.objs.size ≤ b := by
    rcases List.mem_cons.mp hb with z | z
    · subst z; exact Nat.le_succ _
    · rw [List.mem_singleton] at z; subst z; exact Nat.le_refl _
  exact I1.fpOk hle (I1.hok.fresh hle)
theorem for_enumT {K : PySem.W.Frag} {a : Addr} {xs : List V} {g : TG} {tb : TS} {D : Ends} {σ : L2.St} {H : Hp} (Pv : Nat → L2.St → Hp → Prop)
    (h0 : Pv 0 σ H) (hl : ∀ i σ H, i ≤ xs.length → Pv i σ H → SqT K H a xs)
    (hs : ∀ i x T σ H, xs[i]? = some x → Pv i σ H → H T = none →
      g (.ref T) σ (upd H T (.tup [.int (i : Nat), x])) fun σ2 H2 => tb { D with nx := Pv (i + 1), ct := Pv (i + 1), bk := D.nx } σ2 H2)
    (hd : ∀ σ H, Pv xs.length σ H → D.nx σ H) :
    ∃ W : Nat → Nat → L2.St → Hp → Prop, (∃ m, W 0 m σ H) ∧ ∀ i m σ H, W i m σ H →
      ((Iet K a).stop i H ∧ D.nx σ H) ∨ ((Iet K a).go i H ∧ ∃ N : L2.St → Hp → Prop, (∀ σ' H', N σ' H' → ∃ m', m' < m ∧ W (i + 1) m' σ' H') ∧
        ∀ x H', (Iet K a).yld i H x H' → g x σ H' fun σ2 H2 => tb { D with nx := N, ct := N, bk := D.nx } σ2 H2) := by
  refine ⟨fun i m σ H => m = xs.length - i ∧ i ≤ xs.length ∧ Pv i σ H, ⟨xs.length, by simp, Nat.zero_le _, h0⟩, ?_⟩
  rintro i m σ H ⟨rfl, hi, p⟩
  have q := hl i σ H hi p
  by_cases hlt : i < xs.length
  · refine .inr ⟨⟨xs, xs[i], q, List.getElem?_eq_getElem hlt⟩, Pv (i + 1), fun σ' H' p' => ⟨_, by omega, rfl, hlt, p'⟩, ?_⟩
    rintro v H' ⟨T, x, rfl, nT, rfl, hx⟩
    exact hs i x T σ H (hx xs q) p nT
  · have e : i = xs.length := by omega
    subst e
    exact .inl ⟨⟨xs, q, Nat.le_refl _⟩, hd σ H p⟩
end Gx

set_option Elab.async false
set_option linter.all false
set_option maxRecDepth 100000
set_option maxHeartbeats 2000000
namespace Gx
open PySem PySem.Spec PyProof.Rows L2 Evl
/-! Steps: what they are, what they lead a number to, how they lie in the heap. -/
inductive Stp where
  | plus (k : Int) | times (k : Int) | into (k : Int) | over (k : Int) | found (ps : List (Int × Int))
abbrev Near (k : Int) : Prop := -1000000000000 ≤ k ∧ k ≤ 1000000000000
def Stp.ok : Stp → Prop
  | .plus k => Near k
  | .times k => Near k ∧ k ≠ 0
  | .into k => 0 < k ∧ k ≤ 1000000000000
  | .over k => Near k
  | .found ps => (ps.map (·.1)).Nodup ∧ (∀ p ∈ ps, Near p.1 ∧ Near p.2) ∧ ps.length ≤ 8
def look (ps : List (Int × Int)) (n : Int) : Option Int := (ps.find? fun p => decide (p.1 = n)).map (·.2)
def lead : Stp → Int → Option Int
  | .plus k, n => some (n + k)
  | .times k, n => some (n * k)
  | .into k, n => some (n.fdiv k)
  | .over k, n => if n = 0 then none else some (k.fdiv n)
  | .found ps, n => look ps n
def leadAll : List Stp → Int → Option Int
  | [], n => some n
  | s :: r, n => match lead s n with
    | some m => leadAll r m
    | none => none
/-- the number at which steps err -/
def erredAt : List Stp → Int → Option Int
  | [], _ => none
  | s :: r, n => match lead s n with
    | some m => erredAt r m
    | none => some n
theorem leadAll_none {ss : List Stp} : ∀ {n : Int}, leadAll ss n = none → ∃ m, erredAt ss n = some m := by
  induction ss with
  | nil => intro n h; cases h
  | cons s r ih =>
    intro n h
    unfold leadAll at h
    unfold erredAt
    cases e : lead s n with
    | none => exact ⟨n, rfl⟩
    | some m => rw [e] at h; exact ih h
theorem leadAll_some {ss : List Stp} : ∀ {n m : Int}, leadAll ss n = some m → erredAt ss n = none := by
  induction ss with
  | nil => intro n m h; rfl
  | cons s r ih =>
    intro n m h
    unfold leadAll at h
    unfold erredAt
    cases e : lead s n with
    | none => rw [e] at h; cases h
    | some m => rw [e] at h; exact ih h
/-! ### how great the numbers grow -/
theorem fdiv_abs {a b : Int} (hb : b ≠ 0) : (a.fdiv b).natAbs ≤ a.natAbs := by
  have h1 := Int.mul_fdiv_add_fmod a b
  by_cases pb : 0 < b
  · rw [Int.fdiv_eq_ediv_of_nonneg a (by omega)]
    by_cases pa : 0 ≤ a
    · have := Int.ediv_le_self b pa
      have := Int.ediv_nonneg pa (by omega : 0 ≤ b)
      omega
    · have q1 : a ≤ a / b := by
        have := Int.mul_ediv_self_le (x := a) (k := b) (by omega)
        have q2 := Int.lt_mul_ediv_self_add (x := a) pb
        by_cases z : a / b ≤ a - 1
        · have : b * (a / b) ≤ b * (a - 1) := Int.mul_le_mul_of_nonneg_left z (by omega)
          have e : b * (a - 1) = b * a - b := by rw [Int.mul_sub, Int.mul_one]
          have : b * a ≤ 1 * a := Int.mul_le_mul_of_nonpos_right (by omega) (by omega)
          omega
        · omega
      have q3 : a / b < 0 := Int.ediv_neg_of_neg_of_pos (by omega) pb
      omega
  · have e : a.fdiv b = (-a).fdiv (-b) := (Int.neg_fdiv_neg a b).symm
    rw [e, Int.fdiv_eq_ediv_of_nonneg (-a) (by omega)]
    by_cases pa : 0 ≤ -a
    · have := Int.ediv_le_self (-b) pa
      have := Int.ediv_nonneg pa (by omega : 0 ≤ -b)
      omega
    · have pb' : 0 < -b := by omega
      have q1 : -a ≤ -a / -b := by
        have q2 := Int.lt_mul_ediv_self_add (x := -a) pb'
        by_cases z : -a / -b ≤ -a - 1
        · have : -b * (-a / -b) ≤ -b * (-a - 1) := Int.mul_le_mul_of_nonneg_left z (by omega)
          have e : -b * (-a - 1) = -b * -a - -b := by rw [Int.mul_sub, Int.mul_one]
          have : -b * -a ≤ 1 * -a := Int.mul_le_mul_of_nonpos_right (by omega) (by omega)
          omega
        · omega
      have q3 : -a / -b < 0 := Int.ediv_neg_of_neg_of_pos (by omega) pb'
      omega
theorem near_abs {k : Int} (h : Near k) : k.natAbs < 1099511627776 := by
  obtain ⟨h1, h2⟩ := h
  omega
theorem look_mem {ps : List (Int × Int)} {n m : Int} (h : look ps n = some m) : (n, m) ∈ ps := by
  unfold look at h
  obtain ⟨p, h1, h2⟩ := Option.map_eq_some_iff.mp h
  have := List.mem_of_find?_eq_some h1
  have e := List.find?_some h1
  simp at e
  obtain ⟨a, b⟩ := p
  simp only at e h2
  subst e h2
  exact this
theorem mul_big (a c B : Nat) (h1 : a < B) (h2 : c < 1099511627776) : a * c < B * 2199023255552 :=
  Nat.lt_of_lt_of_le (Nat.mul_lt_mul'' h1 h2) (Nat.mul_le_mul_left B (by decide))
theorem lead_big {s : Stp} {n m : Int} {b : Nat} (hs : s.ok) (hn : n.natAbs < 2 ^ b) (h : lead s n = some m) : m.natAbs < 2 ^ (b + 41) := by
  have p1 : (2 : Nat) ^ (b + 41) = 2 ^ b * 2 ^ 41 := Nat.pow_add 2 b 41
  have p2 : (2 : Nat) ^ 41 = 2199023255552 := by decide
  have p4 : 1 ≤ (2 : Nat) ^ b := Nat.one_le_two_pow
  generalize hB : (2 : Nat) ^ b = B at *
  rw [p1, p2]
  cases s with
  | plus k =>
    have q := near_abs hs
    have h : some (n + k) = some m := h
    injection h with h
    omega
  | times k =>
    have q := near_abs hs.1
    have h : some (n * k) = some m := h
    injection h with h
    rw [← h, Int.natAbs_mul]
    exact mul_big _ _ _ hn q
  | into k =>
    have h : some (n.fdiv k) = some m := h
    injection h with h
    have q : k ≠ 0 := by have := hs.1; omega
    have := fdiv_abs (a := n) q
    omega
  | over k =>
    have h : (if n = 0 then none else some (k.fdiv n)) = some m := h
    by_cases h0 : n = 0
    · rw [if_pos h0] at h; cases h
    · rw [if_neg h0] at h
      injection h with h
      have := fdiv_abs (a := k) h0
      have := near_abs hs
      omega
  | found ps =>
    have := look_mem h
    have := near_abs (hs.2.1 _ this).2
    simp only at this
    omega
/-! ### what never changes stands -/
def imm : HO → Bool
  | .tup _ => true
  | .frz _ _ => true
  | _ => false
def ExI (H H' : Hp) : Prop := ∀ a o, H a = some o → imm o = true → H' a = some o
theorem ExI.of {H H' : Hp} (e : Ex H H') : ExI H H' := fun a o h _ => e a o h
theorem ExI.trans {H H1 H2 : Hp} (a : ExI H H1) (b : ExI H1 H2) : ExI H H2 := fun c o h i => b c o (a c o h i) i
theorem ExI.put {H : Hp} {l : Addr} {u u' : HO} (h : H l = some u) (n : imm u = false) : ExI H (upd H l u') := fun a o q i => by
  rw [upd_ne (fun e => by subst e; rw [h] at q; cases q; rw [n] at i; cases i)]
  exact q
theorem ExI.sq {K : PySem.W.Frag} {H H' : Hp} {a : Addr} {xs : List V} (e : ExI H H') (h : SqT K H a xs) : SqT K H' a xs := by
  rcases h with (h | ⟨o, h⟩) | h
  · exact .inl (.inl (e _ _ h rfl))
  · exact .inl (.inr ⟨o, e _ _ h rfl⟩)
  · exact .inr h
/-! ### how they lie -/
def PairAt (K : PySem.W.Frag) (H : Hp) (p : Addr) (kv : Int × Int) : Prop := SqT K H p [.int kv.1, .int kv.2]
def StpAt (K : PySem.W.Frag) (H : Hp) (v : V) : Stp → Prop
  | .plus k => ∃ a, v = .ref a ∧ SqT K H a [.str "plus", .int k]
  | .times k => ∃ a, v = .ref a ∧ SqT K H a [.str "times", .int k]
  | .into k => ∃ a, v = .ref a ∧ SqT K H a [.str "into", .int k]
  | .over k => ∃ a, v = .ref a ∧ SqT K H a [.str "over", .int k]
  | .found ps => ∃ a c as, v = .ref a ∧ SqT K H a [.str "found", .ref c] ∧ ExT H c (as.map V.ref) ∧ Paired (PairAt K H) as ps
def pairD (kv : Int × Int) : PyData := .tuple [.int kv.1, .int kv.2]
def Stp.data : Stp → PyData
  | .plus k => .tuple [.str "plus", .int k]
  | .times k => .tuple [.str "times", .int k]
  | .into k => .tuple [.str "into", .int k]
  | .over k => .tuple [.str "over", .int k]
  | .found ps => .tuple [.str "found", .tuple (ps.map pairD)]
section
variable {K : PySem.W.Frag} {H H' : Hp}
theorem paired_to {as : List Addr} {ps : List (Int × Int)} (e : Ex H H') (h : Paired (PairAt K H) as ps) : Paired (PairAt K H') as ps :=
  L2.Paired.mapP h fun _ _ q => ex_t e q
theorem StpAt.to {v : V} {s : Stp} (h : StpAt K H v s) (e : Ex H H') : StpAt K H' v s := by
  cases s with
  | found ps =>
    obtain ⟨a, c, as, h1, h2, h3, h4⟩ := h
    exact ⟨a, c, as, h1, ex_t e h2, h3.to e, paired_to e h4⟩
  | _ => obtain ⟨a, h1, h2⟩ := h; exact ⟨a, h1, ex_t e h2⟩
theorem pairs_dp : ∀ {as : List Addr} {ps : List (Int × Int)}, Paired (PairAt K H) as ps → DpAll K H (as.map V.ref) (ps.map pairD)
  | _, _, .nil => .nil
  | _, _, .cons h t => .cons (.tup h (.cons (.int _) (.cons (.int _) .nil))) (pairs_dp t)
theorem StpAt.dp {v : V} {s : Stp} (h : StpAt K H v s) : Dp K H v s.data := by
  cases s with
  | found ps =>
    obtain ⟨a, c, as, rfl, h2, h3, h4⟩ := h
    exact .tup h2 (.cons (.str _) (.cons (.tup h3.sq (pairs_dp h4)) .nil))
  | _ => obtain ⟨a, rfl, h2⟩ := h; exact .tup h2 (.cons (.str _) (.cons (.int _) .nil))
theorem StpAt.toI {v : V} {s : Stp} (h : StpAt K H v s) (e : ExI H H') : StpAt K H' v s := by
  cases s with
  | found ps =>
    obtain ⟨a, c, as, h1, h2, ⟨o, h3, h5⟩, h4⟩ := h
    exact ⟨a, c, as, h1, e.sq h2, ⟨o, e _ _ h3 rfl, h5⟩, L2.Paired.mapP h4 fun _ _ q => e.sq q⟩
  | _ => obtain ⟨a, h1, h2⟩ := h; exact ⟨a, h1, e.sq h2⟩
abbrev StpsAt (K : PySem.W.Frag) (H : Hp) (vs : List V) (ss : List Stp) : Prop := Paired (StpAt K H) vs ss
theorem stps_to {vs : List V} {ss : List Stp} (h : StpsAt K H vs ss) (e : Ex H H') : StpsAt K H' vs ss := L2.Paired.mapP h fun _ _ q => q.to e
theorem stps_toI {vs : List V} {ss : List Stp} (h : StpsAt K H vs ss) (e : ExI H H') : StpsAt K H' vs ss := L2.Paired.mapP h fun _ _ q => q.toI e
theorem stps_dp : ∀ {vs : List V} {ss : List Stp}, StpsAt K H vs ss → DpAll K H vs (ss.map Stp.data)
  | _, _, .nil => .nil
  | _, _, .cons h t => .cons h.dp (stps_dp t)
theorem paired_get {α β : Type} {F : α → β → Prop} : ∀ {xs : List α} {ys : List β}, Paired F xs ys → ∀ {i : Nat} {x : α}, xs[i]? = some x → ∃ y, ys[i]? = some y ∧ F x y
  | _, _, .nil, i, x, e => by simp at e
  | _, _, .cons h t, 0, x, e => by simp at e; subst e; exact ⟨_, by simp, h⟩
  | _, _, .cons h t, i + 1, x, e => by
    obtain ⟨y, q1, q2⟩ := paired_get t (i := i) (by simpa using e)
    exact ⟨y, by simpa using q1, q2⟩
theorem paired_app {α β : Type} {F : α → β → Prop} : ∀ {xs xs' : List α} {ys ys' : List β}, Paired F xs ys → Paired F xs' ys' → Paired F (xs ++ xs') (ys ++ ys')
  | _, _, _, _, .nil, q => q
  | _, _, _, _, .cons h t, q => .cons h (paired_app t q)
theorem paired_take {α β : Type} {F : α → β → Prop} : ∀ (n : Nat) {xs : List α} {ys : List β}, Paired F xs ys → Paired F (xs.take n) (ys.take n)
  | 0, _, _, _ => .nil
  | _ + 1, _, _, .nil => .nil
  | n + 1, _, _, .cons h t => .cons h (paired_take n t)
theorem shaped_pairs : ∀ ps : List (Int × Int), PyData.canLayAll0 (ps.map pairD) = true ∧ PyData.depthAll (ps.map pairD) ≤ 1
  | [] => ⟨rfl, by decide⟩
  | p :: r => by
    obtain ⟨h1, h2⟩ := shaped_pairs r
    refine ⟨?_, ?_⟩
    · simp [PyData.canLayAll0, pairD, PyData.canLay0, h1]
    · simp only [List.map_cons, PyData.depthAll, pairD, PyData.depth] at h2 ⊢
      omega
end
end Gx

set_option Elab.async false
set_option linter.all false
set_option maxRecDepth 100000
set_option maxHeartbeats 2000000
namespace Gx
open PySem PySem.Spec PyProof.Rows L2 Evl
/-! What the helpers of the laws promise. -/
def spOne (K : PySem.W.Frag) : Sp := fun vs H Q _ => ∃ (b l : Addr) (xs : List V), vs = [.ref b, .ref l] ∧ Bag H b ∧ SqL K H l xs ∧
  0 < xs.length ∧ xs.length < 100000 ∧ ∀ x ∈ xs, Q x H
def spNumber : Sp := fun vs H Q _ => ∃ b : Addr, vs = [.ref b] ∧ Bag H b ∧ ∀ x : Int, Near x → ∀ H', Ex H H' → Q (.int x) H'
def spStep (K : PySem.W.Frag) : Sp := fun vs H Q _ => ∃ b : Addr, vs = [.ref b] ∧ Bag H b ∧
  ∀ v s H', Ex H H' → Stp.ok s → StpAt K H' v s → Q v H'
def spSteps (K : PySem.W.Frag) : Sp := fun vs H Q _ => ∃ b : Addr, vs = [.ref b, .int 4] ∧ Bag H b ∧
  ∀ a ws ss H', Ex H H' → ss.length ≤ 4 → (∀ s ∈ ss, Stp.ok s) → ExT H' a ws → StpsAt K H' ws ss → Q (.ref a) H'
theorem if_t {c : Bool} {A B : Prop} (hc : c = true) (h : A) : if c = true then A else B := by rw [if_pos hc]; exact h
theorem if_f {c : Bool} {A B : Prop} (hc : c = false) (h : B) : if c = true then A else B := by
  rw [hc, if_neg Bool.false_ne_true]; exact h
theorem cut_take (xs : List V) (n : Nat) : cutV xs none (some (n : Int)) = xs.take n := by
  unfold cutV
  rw [show HT.sIx xs.length 0 none = 0 from rfl, List.drop_zero, Nat.sub_zero]
  have e : HT.sIx xs.length xs.length (some (n : Int)) = min n xs.length := by
    show (if (n : Int) < 0 then ((n : Int) + xs.length).toNat else min (n : Int).toNat xs.length) = min n xs.length
    rw [if_neg (by omega), Int.toNat_natCast]
  rw [e]
  by_cases q : n ≤ xs.length
  · rw [Nat.min_eq_left q]
  · rw [Nat.min_eq_right (by omega), List.take_length, List.take_of_length_le (by omega)]
theorem sz1 : (1 : Nat) ≤ sizeLine := by decide
theorem sz2 : (2 : Nat) ≤ sizeLine := by decide
theorem sz3 : (3 : Nat) ≤ sizeLine := by decide
theorem sz4 : (4 : Nat) ≤ sizeLine := by decide
theorem sz5 : (5 : Nat) ≤ sizeLine := by decide
theorem small {n : Nat} (h : n ≤ 100000) : n < sizeLine := Nat.lt_of_le_of_lt h (by decide)
theorem p10_12 : (10 : Int) ^ (12 : Int).toNat = 1000000000000 := by decide
theorem p10_11 : (10 : Int) ^ (11 : Int).toNat = 100000000000 := by decide
/-- an item of a short written list -/
theorem item2 {a b : V} {i : Int} (h0 : 0 ≤ i) (h1 : i < 2) : atI [a, b] i = some a ∧ i = 0 ∨ atI [a, b] i = some b ∧ i = 1 := by
  rcases (by omega : i = 0 ∨ i = 1) with rfl | rfl
  · exact .inl ⟨rfl, rfl⟩
  · exact .inr ⟨rfl, rfl⟩
theorem item_in {xs : List V} {i : Int} (h0 : 0 ≤ i) (h1 : i < xs.length) : ∃ v, atI xs i = some v ∧ v ∈ xs := by
  obtain ⟨v, e, m⟩ := get_of h0 h1
  exact ⟨v, atI_of h0 e, m⟩
theorem cp10_12 : CPow 10 12 := ⟨by decide, by decide, by decide⟩
theorem cp10_11 : CPow 10 11 := ⟨by decide, by decide, by decide⟩
end Gx

set_option Elab.async false
set_option linter.all false
set_option maxRecDepth 100000
set_option maxHeartbeats 2000000
namespace Gx
open PySem PySem.Spec PyProof.Rows L2 Evl
/-! An error class of the package with one field: raised, caught, its field read. -/
/-- what the head tells of the class x at C, whose __init__ (the def st, at fI) stores the field fl -/
structure Err (K : PySem.W.Frag) (mg : Str → Option Value) (x qual fl : Str) (ps : List Str) (st : Stmt) (C fI : Addr) (fd : FuncData) : Prop where
  T : OexC K C
  gC : mg x = some (.ref C)
  iC : PySem.W.findIn K (.ref C) "__init__" = some (some (.ref fI))
  tI : PySem.W.typeIn K (.ref fI) = some (.type "function")
  no : PySem.W.findIn K (.ref C) fl = some none
  xf : XfC K C
  te : PySem.W.exmOne K (.ref C) (.ref C) = some true
  fn : Fun K "__init__" qual st fI fd
  bd : Binds K fd ps []
/-- __init__: the field is stored -/
def spInit (C : Addr) (fl : Str) : Sp := fun vs H Q _ => ∃ (a : Addr) (v : V), vs = [.ref a, v] ∧ H a = some (exo a C none) ∧
  ∀ dx, H dx = none → dx ≠ a → Q .non (upd (upd H dx (exd dx [(fl, v)])) a (exo a C (some dx)))
/-- .. and what a raise of it comes to -/
theorem raise_read {C : Addr} {fl : Str} {ta : TA} {σ : L2.St} {H : Hp} {W : XK} {v : V} {H1 : Hp}
    (ha : ∀ Q : List V → Hp → Prop, Q [v] H1 → ta σ H Q)
    (k : ∀ d H', Ex H1 H' → H' d = some (.xd [(fl, v)]) → W (.ref C) (some d) H') :
    tMkO C (spInit C fl) [] ta σ H W := by
  refine ha _ ⟨by show 1 ≤ 1000; decide, fun a na => ⟨a, v, rfl, upd_same, fun dx nd nda => ⟨rfl, dx, [(fl, v)], upd_same, ?_, ?_, ?_⟩⟩⟩
  · rw [upd_ne nda]; exact upd_same
  · rw [upd_ne nda] at nd; exact nd
  · have nd' : H1 dx = none := by rw [upd_ne nda] at nd; exact nd
    refine k dx _ (fun c o e => ?_) upd_same
    have c1 : c ≠ dx := ne_of_none e nd'
    have c2 : c ≠ a := ne_of_none e na
    rw [upd_ne c1, del_ne c2, upd_ne c2, upd_ne c1, upd_ne c2]
    exact e
/-- the field of the caught error -/
theorem field_read {C a d : Addr} {fl : Str} {v : V} {te : TE} {σ : L2.St} {H : Hp} {Q : VK}
    (ht : ∀ Q : VK, Q (.ref a) H → te σ H Q) (hd : H d = some (.xd [(fl, v)])) (q : Q v H) : tXf a (.ref C) (some d) C fl te σ H Q :=
  ht _ ⟨rfl, rfl, d, _, v, rfl, hd, by simp [List.lookup], q⟩
/-- a tuple's item where the context is another than the written part's -/
theorem ix_tupK {X : Cx} {K : PySem.W.Frag} (h : X.K = K) : IxR X (rIxT K) := by rw [← h]; exact ix_tup
end Gx

set_option Elab.async false
set_option linter.all false
set_option maxRecDepth 100000
set_option maxHeartbeats 2000000
namespace Gx
open PySem PySem.Spec PyProof.Rows L2 Evl
/-! A list times a number. -/
def rRepL (K : PySem.W.Frag) : R2 := fun x y H Q => ∃ (l : Addr) (k : Int) (xs : List V), x = .ref l ∧ y = .int k ∧ SqL K H l xs ∧
  0 ≤ k ∧ k ≤ 100000 ∧ xs.length ≤ 100 ∧ ∀ p, H p = none → Q (.ref p) (upd H p (.lst (List.replicate k.toNat xs).flatten))
theorem flat_rep (its : List Value) (m : Nat) :
    List.foldl (fun x1 x2 => x1 ++ x2) #[] (List.replicate m its.toArray) = (List.replicate m its).flatten.toArray := by
  have go : ∀ (m : Nat) (acc : List Value), List.foldl (fun x1 x2 => x1 ++ x2) acc.toArray (List.replicate m its.toArray) = (acc ++ (List.replicate m its).flatten).toArray := by
    intro m
    induction m with
    | zero => intro acc; simp
    | succ m ih =>
      intro acc
      rw [List.replicate_succ, List.foldl_cons, List.append_toArray, ih, List.replicate_succ, List.flatten_cons, List.append_assoc]
  simpa using go m []
section
variable {X : Cx}
theorem op_repL : OpR X (binaryOp .Mult) (rRepL X.K) := by
  intro pins s σ H x y v u Q I rx ry h
  obtain ⟨l, k, xs, rfl, rfl, hs, k0, kb, hx, q⟩ := h
  obtain rfl : v = Value.ref l := rx
  obtain ⟨t, rfl⟩ := ry
  obtain ⟨its, r', ⟨o, n, ho, hc, hd, hdat⟩, hz⟩ := I.list hs
  have hl := r'.length
  obtain ⟨oc, od, odat, osl⟩ := o
  simp only at hc hd hdat
  subst hc hd hdat
  have ty : s.TypeIs (.ref l) "list" := ⟨_, ho, rfl⟩
  have kn : its.length * k.toNat ≤ 10000000 := Nat.le_trans (Nat.mul_le_mul (show its.length ≤ 100 by omega) (show k.toNat ≤ 100000 by omega)) (by decide)
  refine wpAny_binaryOp_repeat_ref (T := "list") (U := "int") (by decide) ty (fun s' => typeIs_int s' k t) noFill_list_mul F.fills_int_mul F.slot_int_rmul repeat_list F.slot_int_index.lookup ?_
  refine call_meets F.slot_int_rmul (typeIs_int s k t) F.entry_int_rmul (F.args_int_rmul_2 _ _) (lm_int_rmul_list_any k t l its.toArray n none osl) ⟨ho, rfl, ty, ?_⟩
  have bad : Builtin.List.listTooLong (its.toArray.size * k.toNat) = false := by
    refine decide_eq_false ?_
    rw [List.size_toArray, sizeLine_eq]
    omega
  refine call_meets F.slot_list_mul ty F.entry_list_mul (F.args_list_mul_2 _ _) (lm_list_mul_any l its.toArray n none osl k t ?_ ?_ (by rw [bad]; exact Bool.false_ne_true)) ⟨ho, ?_⟩
  · have e : Builtin.List.listFitsIndex k = true := by
      unfold Builtin.List.listFitsIndex
      rw [Bool.and_eq_true]
      exact ⟨decide_eq_true (by omega), decide_eq_true (by omega)⟩
    rw [e]; decide
  · rw [List.size_toArray]; omega
  · have e : List.foldl (fun x1 x2 => x1 ++ x2) #[] (List.replicate (if its.toArray.isEmpty = true then 0 else k.toNat) its.toArray) = (List.replicate k.toNat its).flatten.toArray := by
      cases its with
      | nil => simp
      | cons a r => rw [if_neg (by simp)]; exact flat_rep _ _
    rw [e]
    have ln : (List.replicate k.toNat xs).flatten.length ≤ sizeLine := by
      rw [lm_len_rep_flat, hl, sizeLine_eq, Nat.mul_comm]
      omega
    have hn : H s.heap.objs.size = none := I.hok.fresh (Nat.le_refl _)
    have I2 := I.laid (t' := s.toks) (a := s.heap.objs.size) (o := .lst (List.replicate k.toNat xs).flatten)
      (h' := s.heap.push { cls := .type "list", data := .seq (List.replicate k.toNat its).flatten.toArray }) (fun b o e => Heap.get?_push_of_some _ e) (Nat.le_refl _)
      ⟨?_, ?_⟩
    · exact ⟨.ref s.heap.objs.size, _, I2, rfl, q _ hn⟩
    · exact ln
    · exact ⟨_, _, r'.rep k.toNat, Heap.get?_push_size _ rfl⟩
/-- a list's item where the context is another than the written part's -/
theorem ix_listK {K : PySem.W.Frag} (h : X.K = K) : IxR X (rIxL K) := by rw [← h]; exact ix_list
end
theorem takeS {α : Type} {l : List α} {j : Nat} {x : α} (h : l[j]? = some x) : l.take (j + 1) = l.take j ++ [x] := by
  rw [List.take_add_one, h]
  rfl
end Gx

set_option Elab.async false
set_option linter.all false
set_option maxRecDepth 100000
set_option maxHeartbeats 4000000
namespace Gx
open PySem PySem.Spec PyProof.Rows L2 Evl
/-! Conditions: what they are, how they lie in the heap. -/
inductive Leaf where
  | always (w : Str) | empty (n : Str) | number (n : Str) | asks (n : Str) (ss : List Stp) (sg : Str) (k : Int)
inductive Cnd where
  | leaf (l : Leaf)
  | not (c : Cnd)
  | node (k : Str) (cs : List Cnd)
  | case (ws ts : List Cnd) (e : Cnd)
def Leaf.data : Leaf → PyData
  | .always w => .tuple [.str "always", .str w]
  | .empty n => .tuple [.str "empty", .str n]
  | .number n => .tuple [.str "number", .str n]
  | .asks n ss sg k => .tuple [.str "asks", .str n, .tuple (ss.map Stp.data), .str sg, .int k]
def pairL : List PyData → List PyData → List PyData
  | a :: as, b :: bs => .tuple [a, b] :: pairL as bs
  | _, _ => []
mutual
def Cnd.data : Cnd → PyData
  | .leaf l => l.data
  | .not c => .tuple [.str "not", c.data]
  | .node k cs => .tuple [.str k, .tuple (Cnd.dataL cs)]
  | .case ws ts e => .tuple [.str "case", .tuple (pairL (Cnd.dataL ws) (Cnd.dataL ts)), e.data]
def Cnd.dataL : List Cnd → List PyData
  | [] => []
  | c :: cs => c.data :: Cnd.dataL cs
end
def sgns : List Str := ["<", "<=", "<>", "=", ">", ">="]
def words : List Str := ["error", "no", "unknown", "yes"]
def kinds : List Str := ["all", "any", "first"]
def Leaf.ok (ns : List Str) : Leaf → Prop
  | .always w => w ∈ words
  | .empty n => n ∈ ns
  | .number n => n ∈ ns
  | .asks n ss sg k => n ∈ ns ∧ (∀ s ∈ ss, Stp.ok s) ∧ ss.length ≤ 4 ∧ sg ∈ sgns ∧ Near k
mutual
def Cnd.ok (ns : List Str) : Cnd → Prop
  | .leaf l => l.ok ns
  | .not c => c.ok ns
  | .node k cs => k ∈ kinds ∧ Cnd.okL ns cs
  | .case ws ts e => ws.length = ts.length ∧ Cnd.okL ns ws ∧ Cnd.okL ns ts ∧ e.ok ns
def Cnd.okL (ns : List Str) : List Cnd → Prop
  | [] => True
  | c :: cs => c.ok ns ∧ Cnd.okL ns cs
end
mutual
def Cnd.depth : Cnd → Nat
  | .leaf _ => 0
  | .not c => c.depth + 1
  | .node _ cs => Cnd.depthL cs + 1
  | .case ws ts e => max (max (Cnd.depthL ws) (Cnd.depthL ts)) e.depth + 1
def Cnd.depthL : List Cnd → Nat
  | [] => 0
  | c :: cs => max c.depth (Cnd.depthL cs)
end
mutual
def Cnd.weight : Cnd → Nat
  | .leaf _ => 200000
  | .not c => c.weight + 40
  | .node _ cs => Cnd.weightL cs + 40
  | .case ws ts e => Cnd.weightL ws + Cnd.weightL ts + e.weight + 40
def Cnd.weightL : List Cnd → Nat
  | [] => 0
  | c :: cs => c.weight + Cnd.weightL cs + 20
end
theorem Cnd.okL_iff {ns : List Str} : ∀ {cs : List Cnd}, Cnd.okL ns cs ↔ ∀ c ∈ cs, c.ok ns
  | [] => by simp [Cnd.okL]
  | c :: cs => by
    rw [Cnd.okL, Cnd.okL_iff (cs := cs)]
    simp
theorem Cnd.depthL_le {n : Nat} : ∀ {cs : List Cnd}, Cnd.depthL cs ≤ n ↔ ∀ c ∈ cs, c.depth ≤ n
  | [] => by simp [Cnd.depthL]
  | c :: cs => by
    rw [Cnd.depthL, Nat.max_le, Cnd.depthL_le (cs := cs)]
    simp
theorem Cnd.dataL_map : ∀ cs : List Cnd, Cnd.dataL cs = cs.map Cnd.data
  | [] => rfl
  | c :: cs => by rw [Cnd.dataL, Cnd.dataL_map cs]; rfl
/-! ### in the heap -/
def Zip3 (K : PySem.W.Frag) (H : Hp) : List Addr → List V → List V → Prop
  | [], [], [] => True
  | q :: qs, x :: xs, y :: ys => SqT K H q [x, y] ∧ Zip3 K H qs xs ys
  | _, _, _ => False
def LeafAt (K : PySem.W.Frag) (H : Hp) (v : V) : Leaf → Prop
  | .always w => ∃ a, v = .ref a ∧ SqT K H a [.str "always", .str w]
  | .empty n => ∃ a, v = .ref a ∧ SqT K H a [.str "empty", .str n]
  | .number n => ∃ a, v = .ref a ∧ SqT K H a [.str "number", .str n]
  | .asks n ss sg k => ∃ a b ws, v = .ref a ∧ SqT K H a [.str "asks", .str n, .ref b, .str sg, .int k] ∧ SqT K H b ws ∧ StpsAt K H ws ss
mutual
def CndAt (K : PySem.W.Frag) (H : Hp) : V → Cnd → Prop
  | v, .leaf l => LeafAt K H v l
  | v, .not c => ∃ a x, v = .ref a ∧ SqT K H a [.str "not", x] ∧ CndAt K H x c
  | v, .node k cs => ∃ a b xs, v = .ref a ∧ SqT K H a [.str k, .ref b] ∧ SqT K H b xs ∧ CndsAt K H xs cs
  | v, .case ws ts e => ∃ a b qs xs ys y, v = .ref a ∧ SqT K H a [.str "case", .ref b, y] ∧ SqT K H b (qs.map V.ref) ∧ Zip3 K H qs xs ys ∧
      CndsAt K H xs ws ∧ CndsAt K H ys ts ∧ CndAt K H y e
def CndsAt (K : PySem.W.Frag) (H : Hp) : List V → List Cnd → Prop
  | xs, [] => xs = []
  | xs, c :: cs => ∃ x r, xs = x :: r ∧ CndAt K H x c ∧ CndsAt K H r cs
end
section
variable {K : PySem.W.Frag} {H H' : Hp}
theorem zip3_toI (e : ExI H H') : ∀ {qs : List Addr} {xs ys : List V}, Zip3 K H qs xs ys → Zip3 K H' qs xs ys
  | [], [], [], h => trivial
  | _ :: _, _ :: _, _ :: _, h => ⟨e.sq h.1, zip3_toI e h.2⟩
  | [], _ :: _, _, h => h.elim
  | [], [], _ :: _, h => h.elim
  | _ :: _, [], _, h => h.elim
  | _ :: _, _ :: _, [], h => h.elim
theorem leafAt_toI {v : V} {l : Leaf} (e : ExI H H') (h : LeafAt K H v l) : LeafAt K H' v l := by
  cases l with
  | asks n ss sg k =>
    obtain ⟨a, b, ws, h1, h2, h3, h4⟩ := h
    exact ⟨a, b, ws, h1, e.sq h2, e.sq h3, stps_toI h4 e⟩
  | _ => obtain ⟨a, h1, h2⟩ := h; exact ⟨a, h1, e.sq h2⟩
mutual
theorem cndAt_toI (e : ExI H H') : ∀ (c : Cnd) (v : V), CndAt K H v c → CndAt K H' v c
  | .leaf l, v, h => leafAt_toI e h
  | .not c, v, ⟨a, x, h1, h2, h3⟩ => ⟨a, x, h1, e.sq h2, cndAt_toI e c x h3⟩
  | .node k cs, v, ⟨a, b, xs, h1, h2, h3, h4⟩ => ⟨a, b, xs, h1, e.sq h2, e.sq h3, cndsAt_toI e cs xs h4⟩
  | .case ws ts el, v, ⟨a, b, qs, xs, ys, y, h1, h2, h3, h4, h5, h6, h7⟩ =>
    ⟨a, b, qs, xs, ys, y, h1, e.sq h2, e.sq h3, zip3_toI e h4, cndsAt_toI e ws xs h5, cndsAt_toI e ts ys h6, cndAt_toI e el y h7⟩
theorem cndsAt_toI (e : ExI H H') : ∀ (cs : List Cnd) (xs : List V), CndsAt K H xs cs → CndsAt K H' xs cs
  | [], xs, h => h
  | c :: cs, xs, ⟨x, r, h1, h2, h3⟩ => ⟨x, r, h1, cndAt_toI e c x h2, cndsAt_toI e cs r h3⟩
end
theorem CndAt.to {v : V} {c : Cnd} (h : CndAt K H v c) (e : Ex H H') : CndAt K H' v c := cndAt_toI (ExI.of e) c v h
theorem CndsAt.to {vs : List V} {cs : List Cnd} (h : CndsAt K H vs cs) (e : Ex H H') : CndsAt K H' vs cs := cndsAt_toI (ExI.of e) cs vs h
theorem zip3_dp : ∀ {qs : List Addr} {xs ys : List V} {as bs : List PyData}, Zip3 K H qs xs ys → DpAll K H xs as → DpAll K H ys bs → DpAll K H (qs.map V.ref) (pairL as bs)
  | [], [], [], _, _, _, .nil, .nil => .nil
  | q :: qs, x :: xs, y :: ys, _, _, h, .cons h1 h2, .cons h3 h4 => .cons (.tup h.1 (.cons h1 (.cons h3 .nil))) (zip3_dp h.2 h2 h4)
  | [], _ :: _, _, _, _, h, _, _ => h.elim
  | [], [], _ :: _, _, _, h, _, _ => h.elim
  | _ :: _, [], _, _, _, h, _, _ => h.elim
  | _ :: _, _ :: _, [], _, _, h, _, _ => h.elim
theorem leafAt_dp {v : V} {l : Leaf} (h : LeafAt K H v l) : Dp K H v l.data := by
  cases l with
  | asks n ss sg k =>
    obtain ⟨a, b, ws, rfl, h2, h3, h4⟩ := h
    exact .tup h2 (.cons (.str _) (.cons (.str _) (.cons (.tup h3 (stps_dp h4)) (.cons (.str _) (.cons (.int _) .nil)))))
  | _ => obtain ⟨a, rfl, h2⟩ := h; exact .tup h2 (.cons (.str _) (.cons (.str _) .nil))
mutual
theorem cndAt_dp : ∀ (c : Cnd) (v : V), CndAt K H v c → Dp K H v c.data
  | .leaf l, v, h => leafAt_dp h
  | .not c, v, ⟨a, x, h1, h2, h3⟩ => by subst h1; exact .tup h2 (.cons (.str _) (.cons (cndAt_dp c x h3) .nil))
  | .node k cs, v, ⟨a, b, xs, h1, h2, h3, h4⟩ => by subst h1; exact .tup h2 (.cons (.str _) (.cons (.tup h3 (cndsAt_dp cs xs h4)) .nil))
  | .case ws ts el, v, ⟨a, b, qs, xs, ys, y, h1, h2, h3, h4, h5, h6, h7⟩ => by
    subst h1
    exact .tup h2 (.cons (.str _) (.cons (.tup h3 (zip3_dp h4 (cndsAt_dp ws xs h5) (cndsAt_dp ts ys h6))) (.cons (cndAt_dp el y h7) .nil)))
theorem cndsAt_dp : ∀ (cs : List Cnd) (xs : List V), CndsAt K H xs cs → DpAll K H xs (Cnd.dataL cs)
  | [], xs, h => by subst h; exact .nil
  | c :: cs, xs, ⟨x, r, h1, h2, h3⟩ => by subst h1; exact .cons (cndAt_dp c x h2) (cndsAt_dp cs r h3)
end
theorem CndAt.dp {v : V} {c : Cnd} (h : CndAt K H v c) : Dp K H v c.data := cndAt_dp c v h
theorem cnds_len : ∀ {cs : List Cnd} {xs : List V}, CndsAt K H xs cs → xs.length = cs.length
  | [], xs, h => by subst h; rfl
  | c :: cs, xs, ⟨x, r, h1, h2, h3⟩ => by subst h1; simp [cnds_len h3]
theorem cnds_get : ∀ {cs : List Cnd} {xs : List V} {i : Nat} {x : V}, CndsAt K H xs cs → xs[i]? = some x → ∃ c, cs[i]? = some c ∧ CndAt K H x c
  | [], xs, i, x, h, e => by subst h; simp at e
  | c :: cs, xs, i, x, ⟨y, r, h1, h2, h3⟩, e => by
    subst h1
    cases i with
    | zero => simp at e; subst e; exact ⟨c, by simp, h2⟩
    | succ i =>
      obtain ⟨d, q1, q2⟩ := cnds_get (i := i) h3 (by simpa using e)
      exact ⟨d, by simpa using q1, q2⟩
theorem cnds_app : ∀ {cs ds : List Cnd} {xs ys : List V}, CndsAt K H xs cs → CndsAt K H ys ds → CndsAt K H (xs ++ ys) (cs ++ ds)
  | [], ds, xs, ys, h, h' => by subst h; exact h'
  | c :: cs, ds, xs, ys, ⟨y, r, h1, h2, h3⟩, h' => by subst h1; exact ⟨y, r ++ ys, rfl, h2, cnds_app h3 h'⟩
theorem cnds_one {x : V} {c : Cnd} (h : CndAt K H x c) : CndsAt K H [x] [c] := ⟨x, [], rfl, h, rfl⟩
theorem zip3_len : ∀ {qs : List Addr} {xs ys : List V}, Zip3 K H qs xs ys → qs.length = xs.length ∧ xs.length = ys.length
  | [], [], [], _ => ⟨rfl, rfl⟩
  | _ :: qs, _ :: xs, _ :: ys, h => by obtain ⟨a, b⟩ := zip3_len h.2; simp [a, b]
  | [], _ :: _, _, h => h.elim
  | [], [], _ :: _, h => h.elim
  | _ :: _, [], _, h => h.elim
  | _ :: _, _ :: _, [], h => h.elim
theorem zip3_get : ∀ {qs : List Addr} {xs ys : List V} {i : Nat} {q : V}, Zip3 K H qs xs ys → (qs.map V.ref)[i]? = some q →
    ∃ p x y, q = .ref p ∧ xs[i]? = some x ∧ ys[i]? = some y ∧ SqT K H p [x, y]
  | [], [], [], i, q, h, e => by simp at e
  | q' :: qs, x' :: xs, y' :: ys, i, q, h, e => by
    cases i with
    | zero => simp at e; subst e; exact ⟨q', x', y', rfl, by simp, by simp, h.1⟩
    | succ i =>
      obtain ⟨p, x, y, e1, e2, e3, e4⟩ := zip3_get (i := i) h.2 (by simpa using e)
      exact ⟨p, x, y, e1, by simpa using e2, by simpa using e3, e4⟩
  | [], _ :: _, _, _, _, h, _ => h.elim
  | [], [], _ :: _, _, _, h, _ => h.elim
  | _ :: _, [], _, _, _, h, _ => h.elim
  | _ :: _, _ :: _, [], _, _, h, _ => h.elim
end
end Gx

set_option Elab.async false
set_option linter.all false
set_option maxRecDepth 100000
set_option maxHeartbeats 4000000
namespace Gx
open PySem PySem.Spec PyProof.Rows L2 Evl
/-! Conditions can be laid, shown, and are not too long to be shown. -/
/-- what data must keep so that it can be compared and shown -/
structure Fit (d : PyData) (n m : Nat) : Prop where
  lay : PyData.canLay0 d = true
  deep : d.depth ≤ n
  show_ : d.showable = true
  wide : wide d ≤ m
structure FitL (ds : List PyData) (n m : Nat) : Prop where
  lay : PyData.canLayAll0 ds = true
  deep : PyData.depthAll ds ≤ n
  show_ : PyData.showableAll ds = true
  wide : wide.wideAll ds ≤ m
theorem Fit.mono {d : PyData} {n m n' m' : Nat} (h : Fit d n m) (a : n ≤ n') (b : m ≤ m') : Fit d n' m' := ⟨h.lay, Nat.le_trans h.deep a, h.show_, Nat.le_trans h.wide b⟩
theorem FitL.mono {d : List PyData} {n m n' m' : Nat} (h : FitL d n m) (a : n ≤ n') (b : m ≤ m') : FitL d n' m' := ⟨h.lay, Nat.le_trans h.deep a, h.show_, Nat.le_trans h.wide b⟩
theorem fit_nil (n : Nat) : FitL [] n 0 := ⟨rfl, Nat.zero_le _, rfl, Nat.le_refl _⟩
theorem fit_cons {d : PyData} {ds : List PyData} {n m k : Nat} (h : Fit d n m) (t : FitL ds n k) : FitL (d :: ds) n (m + 2 + k) := by
  refine ⟨?_, ?_, ?_, ?_⟩
  · simp [PyData.canLayAll0, h.lay, t.lay]
  · simp only [PyData.depthAll]; have := h.deep; have := t.deep; omega
  · simp [PyData.showableAll, h.show_, t.show_]
  · simp only [wide.wideAll]; have := h.wide; have := t.wide; omega
theorem fit_tup {ds : List PyData} {n m : Nat} (t : FitL ds n m) : Fit (.tuple ds) (n + 1) (m + 3) := by
  refine ⟨?_, ?_, ?_, ?_⟩
  · simp [PyData.canLay0, t.lay]
  · simp only [PyData.depth]; have := t.deep; omega
  · simp [PyData.showable, t.show_]
  · simp only [Gx.wide]; have := t.wide; omega
theorem fit_lst {ds : List PyData} {n m : Nat} (t : FitL ds n m) : Fit (.list ds) (n + 1) (m + 2) := by
  refine ⟨?_, ?_, ?_, ?_⟩
  · simp [PyData.canLay0, t.lay]
  · simp only [PyData.depth]; have := t.deep; omega
  · simp [PyData.showable, t.show_]
  · simp only [Gx.wide]; have := t.wide; omega
theorem fit_int {i : Int} (h : Near i) : Fit (.int i) 0 1921 := by
  refine ⟨by simp [PyData.canLay0], by simp [PyData.depth], ?_, by simp [Gx.wide]⟩
  simp only [PyData.showable]
  have b := near_abs h
  refine decide_eq_true ?_
  by_cases h0 : i.natAbs = 0
  · rw [h0]; decide
  · have := (Nat.log2_lt h0 (k := 40)).mpr (by rw [show (2 : Nat) ^ 40 = 1099511627776 by decide]; exact b)
    omega
structure Nm (n : Str) : Prop where
  ok : PyData.strOk n = true
  short : (reprText n).length ≤ 100
theorem fit_str {x : Str} (h : Nm x) : Fit (.str x) 0 100 := ⟨by simp [PyData.canLay0, h.ok], by simp [PyData.depth], by simp [PyData.showable], by simp only [Gx.wide]; exact h.short⟩
theorem nm_plus : Nm "plus" := ⟨by decide +kernel, by decide +kernel⟩
theorem nm_times : Nm "times" := ⟨by decide +kernel, by decide +kernel⟩
theorem nm_into : Nm "into" := ⟨by decide +kernel, by decide +kernel⟩
theorem nm_over : Nm "over" := ⟨by decide +kernel, by decide +kernel⟩
theorem nm_found : Nm "found" := ⟨by decide +kernel, by decide +kernel⟩
theorem nm_always : Nm "always" := ⟨by decide +kernel, by decide +kernel⟩
theorem nm_empty : Nm "empty" := ⟨by decide +kernel, by decide +kernel⟩
theorem nm_number : Nm "number" := ⟨by decide +kernel, by decide +kernel⟩
theorem nm_asks : Nm "asks" := ⟨by decide +kernel, by decide +kernel⟩
theorem nm_not : Nm "not" := ⟨by decide +kernel, by decide +kernel⟩
theorem nm_case : Nm "case" := ⟨by decide +kernel, by decide +kernel⟩
theorem nm_sign {x : Str} (h : x ∈ sgns) : Nm x := by
  have : ∀ x ∈ sgns, PyData.strOk x = true ∧ (reprText x).length ≤ 100 := by decide +kernel
  exact ⟨(this x h).1, (this x h).2⟩
theorem nm_word {x : Str} (h : x ∈ words) : Nm x := by
  have : ∀ x ∈ words, PyData.strOk x = true ∧ (reprText x).length ≤ 100 := by decide +kernel
  exact ⟨(this x h).1, (this x h).2⟩
theorem nm_kind {x : Str} (h : x ∈ kinds) : Nm x := by
  have : ∀ x ∈ kinds, PyData.strOk x = true ∧ (reprText x).length ≤ 100 := by decide +kernel
  exact ⟨(this x h).1, (this x h).2⟩
theorem fit_pair {x y : PyData} {n m k : Nat} (h : Fit x n m) (h' : Fit y n k) : Fit (.tuple [x, y]) (n + 1) (m + k + 7) :=
  (fit_tup (fit_cons h (fit_cons h' (fit_nil n)))).mono (Nat.le_refl _) (by omega)
theorem fit_pairs : ∀ {ps : List (Int × Int)}, (∀ p ∈ ps, Near p.1 ∧ Near p.2) → FitL (ps.map pairD) 1 (3860 * ps.length)
  | [], _ => fit_nil 1
  | p :: ps, h => by
    have h1 := h p List.mem_cons_self
    have t := fit_pairs (ps := ps) fun q hq => h q (List.mem_cons_of_mem _ hq)
    rw [List.map_cons, List.length_cons]
    exact (fit_cons (fit_pair (fit_int h1.1) (fit_int h1.2)) t).mono (Nat.le_refl _) (by omega)
theorem fit_step {s : Stp} (h : s.ok) : Fit s.data 3 31100 := by
  cases s with
  | found ps =>
    obtain ⟨_, h2, h3⟩ := h
    have t := fit_tup (fit_pairs h2)
    exact (fit_pair (fit_str nm_found |>.mono (Nat.zero_le 2) (Nat.le_refl _)) t).mono (Nat.le_refl _) (by omega)
  | plus k => exact (fit_pair (fit_str nm_plus) (fit_int h)).mono (by omega) (by omega)
  | times k => exact (fit_pair (fit_str nm_times) (fit_int h.1)).mono (by omega) (by omega)
  | into k => exact (fit_pair (fit_str nm_into) (fit_int ⟨by have := h.1; omega, h.2⟩)).mono (by omega) (by omega)
  | over k => exact (fit_pair (fit_str nm_over) (fit_int h)).mono (by omega) (by omega)
theorem fit_steps : ∀ {ss : List Stp}, (∀ s ∈ ss, Stp.ok s) → FitL (ss.map Stp.data) 3 (31102 * ss.length)
  | [], _ => fit_nil 3
  | s :: ss, h => by
    have t := fit_steps (ss := ss) fun q hq => h q (List.mem_cons_of_mem _ hq)
    rw [List.map_cons, List.length_cons]
    exact (fit_cons (fit_step (h s List.mem_cons_self)) t).mono (Nat.le_refl _) (by omega)
theorem fit_leaf {ns : List Str} (hn : ∀ n ∈ ns, Nm n) {l : Leaf} (h : l.ok ns) : Fit l.data 6 200000 := by
  cases l with
  | always w => exact (fit_pair (fit_str nm_always) (fit_str (nm_word h))).mono (by omega) (by omega)
  | empty n => exact (fit_pair (fit_str nm_empty) (fit_str (hn n h))).mono (by omega) (by omega)
  | number n => exact (fit_pair (fit_str nm_number) (fit_str (hn n h))).mono (by omega) (by omega)
  | asks n ss sg k =>
    obtain ⟨h1, h2, h3, h4, h5⟩ := h
    have z : 0 ≤ 4 := Nat.zero_le 4
    have t := fit_tup (fit_steps h2)
    exact (fit_tup (fit_cons ((fit_str nm_asks).mono z (Nat.le_refl _)) (fit_cons ((fit_str (hn n h1)).mono z (Nat.le_refl _)) (fit_cons t
      (fit_cons ((fit_str (nm_sign h4)).mono z (Nat.le_refl _)) (fit_cons ((fit_int h5).mono z (Nat.le_refl _)) (fit_nil 4))))))).mono (by omega) (by omega)
theorem fit_pairL : ∀ {as bs : List PyData} {n m k : Nat}, FitL as n m → FitL bs n k → as.length = bs.length → FitL (pairL as bs) (n + 1) (m + k + 20 * as.length)
  | [], [], n, m, k, _, _, _ => (fit_nil _).mono (Nat.le_refl _) (Nat.zero_le _)
  | a :: as, b :: bs, n, m, k, h, h', hl => by
    have s1 := h.lay
    have s2 := h'.lay
    have d1 := h.deep
    have d2 := h'.deep
    have w1 := h.wide
    have w2 := h'.wide
    have v1 := h.show_
    have v2 := h'.show_
    simp only [PyData.canLayAll0, Bool.and_eq_true] at s1 s2
    simp only [PyData.depthAll, Nat.max_le] at d1 d2
    simp only [wide.wideAll] at w1 w2
    simp only [PyData.showableAll, Bool.and_eq_true] at v1 v2
    have t := fit_pairL (as := as) (bs := bs) ⟨s1.2, d1.2, v1.2, Nat.le_refl _⟩ ⟨s2.2, d2.2, v2.2, Nat.le_refl _⟩ (by simpa using hl)
    have p := fit_pair (⟨s1.1, d1.1, v1.1, Nat.le_refl _⟩ : Fit a n _) (⟨s2.1, d2.1, v2.1, Nat.le_refl _⟩ : Fit b n _)
    rw [pairL, List.length_cons]
    exact (fit_cons p t).mono (Nat.le_refl _) (by omega)
  | [], _ :: _, _, _, _, _, _, hl => by simp at hl
  | _ :: _, [], _, _, _, _, _, hl => by simp at hl
theorem weightL_len : ∀ cs : List Cnd, 20 * cs.length ≤ Cnd.weightL cs
  | [] => by simp [Cnd.weightL]
  | c :: cs => by have := weightL_len cs; rw [Cnd.weightL, List.length_cons]; omega
mutual
theorem fit_cnd {ns : List Str} (hn : ∀ n ∈ ns, Nm n) : ∀ (c : Cnd), c.ok ns → Fit c.data (3 * c.depth + 6) (c.weight)
  | .leaf l, h => by rw [Cnd.data, Cnd.weight]; exact (fit_leaf hn h).mono (by omega) (Nat.le_refl _)
  | .not c, h => by
    rw [Cnd.data, Cnd.weight, Cnd.depth]
    have t := fit_cnd hn c (by rw [Cnd.ok] at h; exact h)
    have e := fit_tup (fit_cons ((fit_str nm_not).mono (Nat.zero_le _) (Nat.le_refl _)) (fit_cons t (fit_nil _)))
    have e1 : wide (.str "not") ≤ 6 := by decide +kernel
    refine ⟨e.lay, Nat.le_trans e.deep (by omega), e.show_, ?_⟩
    simp only [Gx.wide, wide.wideAll] at e1 ⊢
    have := t.wide
    omega
  | .node k cs, h => by
    rw [Cnd.data, Cnd.weight, Cnd.depth]
    rw [Cnd.ok] at h
    have t := fit_cnds hn cs h.2
    have e := fit_tup (fit_cons ((fit_str (nm_kind h.1)).mono (Nat.zero_le _) (Nat.le_refl _)) (fit_cons (fit_tup t) (fit_nil _)))
    have e1 : wide (.str k) ≤ 7 := by
      have : ∀ k ∈ kinds, wide (.str k) ≤ 7 := by decide +kernel
      exact this k h.1
    refine ⟨e.lay, Nat.le_trans e.deep (by omega), e.show_, ?_⟩
    simp only [Gx.wide, wide.wideAll] at e1 ⊢
    have := t.wide
    omega
  | .case ws ts el, h => by
    rw [Cnd.data, Cnd.weight, Cnd.depth]
    rw [Cnd.ok] at h
    obtain ⟨h1, h2, h3, h4⟩ := h
    have t1 := fit_cnds hn ws h2
    have t2 := fit_cnds hn ts h3
    have t3 := fit_cnd hn el h4
    generalize hD : max (max (Cnd.depthL ws) (Cnd.depthL ts)) el.depth = D
    have q1 : Cnd.depthL ws ≤ D := by omega
    have q2 : Cnd.depthL ts ≤ D := by omega
    have q3 : el.depth ≤ D := by omega
    have l1 : (Cnd.dataL ws).length = ws.length := by rw [Cnd.dataL_map, List.length_map]
    have l2 : (Cnd.dataL ts).length = ts.length := by rw [Cnd.dataL_map, List.length_map]
    have p := fit_pairL (t1.mono (n' := 3 * D + 6) (by omega) (Nat.le_refl _)) (t2.mono (n' := 3 * D + 6) (by omega) (Nat.le_refl _)) (by rw [l1, l2, h1])
    have e := fit_tup (fit_cons ((fit_str nm_case).mono (Nat.zero_le _) (Nat.le_refl _)) (fit_cons (fit_tup p) (fit_cons (t3.mono (n' := 3 * D + 6 + 1 + 1) (by omega) (Nat.le_refl _)) (fit_nil _))))
    have e1 : wide (.str "case") ≤ 6 := by decide +kernel
    refine ⟨e.lay, Nat.le_trans e.deep (by omega), e.show_, ?_⟩
    have p1 := p.wide
    rw [l1] at p1
    have g3 := t3.wide
    have g4 := weightL_len ws
    have g5 := weightL_len ts
    simp only [Gx.wide, wide.wideAll] at e1 ⊢
    omega
theorem fit_cnds {ns : List Str} (hn : ∀ n ∈ ns, Nm n) : ∀ (cs : List Cnd), Cnd.okL ns cs → FitL (Cnd.dataL cs) (3 * Cnd.depthL cs + 6) (Cnd.weightL cs - 18 * cs.length)
  | [], _ => by rw [Cnd.dataL, Cnd.weightL]; exact (fit_nil _)
  | c :: cs, h => by
    rw [Cnd.okL] at h
    rw [Cnd.dataL, Cnd.depthL, Cnd.weightL]
    have t1 := fit_cnd hn c h.1
    have t2 := fit_cnds hn cs h.2
    exact (fit_cons (t1.mono (n' := 3 * max c.depth (Cnd.depthL cs) + 6) (by omega) (Nat.le_refl _)) (t2.mono (by omega) (Nat.le_refl _))).mono (Nat.le_refl _) (by have := weightL_len cs; rw [List.length_cons]; omega)
end
end Gx

set_option Elab.async false
set_option linter.all false
set_option maxRecDepth 100000
set_option maxHeartbeats 4000000
namespace Gx
open PySem PySem.Spec PyProof.Rows L2 Evl
/-! A list by pairs, as cases take it. -/
def ev {α : Type} : Nat → List α → List α
  | m + 1, a :: _ :: r => a :: ev m r
  | _, _ => []
def od {α : Type} : Nat → List α → List α
  | m + 1, _ :: b :: r => b :: od m r
  | _, _ => []
section
variable {K : PySem.W.Frag} {H : Hp}
theorem zip_ev : ∀ {m : Nat} {qs : List Addr} {xs : List V}, qs.length = m → 2 * m ≤ xs.length →
    (∀ i, i < m → ∃ q x y, qs[i]? = some q ∧ xs[2 * i]? = some x ∧ xs[2 * i + 1]? = some y ∧ SqT K H q [x, y]) → Zip3 K H qs (ev m xs) (od m xs)
  | 0, [], xs, _, _, _ => trivial
  | 0, _ :: _, _, h, _, _ => by simp at h
  | m + 1, [], _, h, _, _ => by simp at h
  | m + 1, q :: qs, [], _, h, _ => by simp at h
  | m + 1, q :: qs, [_], _, h, _ => by simp at h; omega
  | m + 1, q :: qs, a :: b :: r, h, h', f => by
    refine ⟨?_, zip_ev (m := m) (by simpa using h) (by simp at h'; omega) fun i hi => ?_⟩
    · obtain ⟨q', x, y, e1, e2, e3, e4⟩ := f 0 (Nat.zero_lt_succ _)
      simp at e1 e2 e3
      subst e1 e2 e3
      exact e4
    · obtain ⟨q', x, y, e1, e2, e3, e4⟩ := f (i + 1) (Nat.succ_lt_succ hi)
      refine ⟨q', x, y, by simpa using e1, ?_, ?_, e4⟩
      · rw [show 2 * (i + 1) = 2 * i + 1 + 1 by omega] at e2; simpa using e2
      · rw [show 2 * (i + 1) + 1 = 2 * i + 1 + 1 + 1 by omega] at e3; simpa using e3
theorem cnds_ev : ∀ {m : Nat} {xs : List V} {cs : List Cnd}, CndsAt K H xs cs → 2 * m ≤ cs.length → CndsAt K H (ev m xs) (ev m cs) ∧ CndsAt K H (od m xs) (od m cs)
  | 0, xs, cs, _, _ => by
    have e1 : ∀ {α : Type} (l : List α), ev 0 l = [] := fun l => by cases l <;> rfl
    have e2 : ∀ {α : Type} (l : List α), od 0 l = [] := fun l => by cases l <;> rfl
    rw [e1, e1, e2, e2]
    exact ⟨rfl, rfl⟩
  | m + 1, xs, [], _, h => by simp at h
  | m + 1, xs, [_], _, h => by simp at h; omega
  | m + 1, xs, c :: d :: cs, ⟨x, _, e1, h1, y, r, e2, h2, h3⟩, h => by
    subst e1 e2
    obtain ⟨q1, q2⟩ := cnds_ev (m := m) h3 (by simp at h; omega)
    exact ⟨⟨x, _, rfl, h1, q1⟩, ⟨y, _, rfl, h2, q2⟩⟩
end
theorem len_ev : ∀ {α : Type} {m : Nat} {l : List α}, 2 * m ≤ l.length → (ev m l).length = m ∧ (od m l).length = m
  | _, 0, l, _ => by cases l <;> exact ⟨rfl, rfl⟩
  | _, m + 1, [], h => by simp at h
  | _, m + 1, [_], h => by simp at h; omega
  | _, m + 1, a :: b :: r, h => by
    obtain ⟨q1, q2⟩ := len_ev (m := m) (l := r) (by simp at h; omega)
    simp [ev, od, q1, q2]
theorem mem_ev : ∀ {α : Type} {m : Nat} {l : List α} {x : α}, x ∈ ev m l ∨ x ∈ od m l → x ∈ l
  | _, 0, l, x, h => by cases l <;> simp [ev, od] at h
  | _, m + 1, [], x, h => by simp [ev, od] at h
  | _, m + 1, [_], x, h => by simp [ev, od] at h
  | _, m + 1, a :: b :: r, x, h => by
    simp only [ev, od, List.mem_cons] at h ⊢
    rcases h with (h | h) | (h | h)
    · exact .inl h
    · exact .inr (.inr (mem_ev (m := m) (.inl h)))
    · exact .inr (.inl h)
    · exact .inr (.inr (mem_ev (m := m) (.inr h)))
theorem okL_ev {ns : List Str} {cs : List Cnd} {m : Nat} (h : Cnd.okL ns cs) : Cnd.okL ns (ev m cs) ∧ Cnd.okL ns (od m cs) :=
  ⟨Cnd.okL_iff.mpr fun c hc => Cnd.okL_iff.mp h c (mem_ev (.inl hc)), Cnd.okL_iff.mpr fun c hc => Cnd.okL_iff.mp h c (mem_ev (.inr hc))⟩
theorem depthL_ev {n : Nat} {cs : List Cnd} {m : Nat} (h : Cnd.depthL cs ≤ n) : Cnd.depthL (ev m cs) ≤ n ∧ Cnd.depthL (od m cs) ≤ n :=
  ⟨Cnd.depthL_le.mpr fun c hc => Cnd.depthL_le.mp h c (mem_ev (.inl hc)), Cnd.depthL_le.mpr fun c hc => Cnd.depthL_le.mp h c (mem_ev (.inr hc))⟩
theorem weight_mem : ∀ {cs : List Cnd} {c : Cnd}, c ∈ cs → c.weight + 20 ≤ Cnd.weightL cs
  | a :: cs, c, h => by
    rw [Cnd.weightL]
    rcases List.mem_cons.mp h with rfl | h
    · omega
    · have := weight_mem h; omega
theorem weight_ev : ∀ {m : Nat} {cs : List Cnd} {c : Cnd} {i : Nat}, cs[i]? = some c → 2 * m ≤ i → Cnd.weightL (ev m cs) + Cnd.weightL (od m cs) + c.weight + 20 ≤ Cnd.weightL cs
  | 0, cs, c, i, h, _ => by
    have e1 : ∀ {α : Type} (l : List α), ev 0 l = [] := fun l => by cases l <;> rfl
    have e2 : ∀ {α : Type} (l : List α), od 0 l = [] := fun l => by cases l <;> rfl
    rw [e1, e2]
    have := weight_mem (List.mem_of_getElem? h)
    simp only [Cnd.weightL]
    omega
  | m + 1, [], c, i, h, _ => by simp at h
  | m + 1, [_], c, i, h, hi => by
    have := (List.getElem?_eq_some_iff.mp h).1
    simp at this
    omega
  | m + 1, a :: b :: r, c, i, h, hi => by
    obtain ⟨i, rfl⟩ : ∃ i', i = i' + 2 := ⟨i - 2, by omega⟩
    have := weight_ev (m := m) (cs := r) (c := c) (i := i) (by simpa using h) (by omega)
    simp only [ev, od, Cnd.weightL]
    omega
theorem atI_last {α : Type} {xs : List α} {n : Nat} (h : xs.length = n + 1) : atI xs (-1) = xs[n]? := by
  unfold atI ixN
  rw [if_neg (by decide), if_pos (by omega)]
  show xs[(-1 + (xs.length : Int)).toNat]? = _
  rw [show (-1 + (xs.length : Int)).toNat = n by omega]
end Gx

set_option Elab.async false
set_option linter.all false
set_option maxRecDepth 100000
set_option maxHeartbeats 2000000
namespace Gx
open PySem PySem.Spec PyProof.Rows L2 Evl
/-! _law_take of any number of less than 9000 bits. -/
def spTakeB : Sp := fun vs H Q _ => ∃ (b : Addr) (many : Int), vs = [.ref b, .int many] ∧ Bag H b ∧ 0 < many ∧ many.natAbs.log2 < 9000 ∧
  ∀ x : Int, 0 ≤ x → x < many → Q (.int x) H
/-- .. and what its body does to the list -/
def spTakeIB : Sp := fun vs H Q _ => ∃ (b l : Addr) (many p q r : Int) (cs : List Int), vs = [.ref b, .int many] ∧
  H b = some (.lst (bagL p q r l)) ∧ H l = some (.lst (cs.map V.int)) ∧ b ≠ l ∧ (∀ c ∈ cs, 0 ≤ c) ∧
  (0 ≤ p ∧ 0 ≤ q ∧ q < 2147483647 ∧ 0 ≤ r) ∧ 0 < many ∧ many.natAbs.log2 < 9000 ∧
  ∀ x p' q' r' : Int, 0 ≤ x → x < many → (0 ≤ p' ∧ 0 ≤ q' ∧ q' < 2147483647 ∧ 0 ≤ r') →
    Q (.int x) (upd H b (.lst (bagL p' q' r' l)))
section
variable {P : Program} {w : World} {K : PySem.W.Frag} {mg : Str → Option Value} {base : Heap} {k : Nat} {nb nm : Str} {f : Addr} {fd : FuncData}
theorem take_sealedB (F : FnOk P w K mg base CX0 k f fd [nb, nm] spTakeIB) :
    FnOk P w K mg base CX0 k f fd [nb, nm] spTakeB := by
  refine ⟨fun vs H Q E h => ?_, fun A outer s H args us vs Q E rm e0 bd rv h => ?_⟩
  · obtain ⟨b, many, rfl, _⟩ := h; rfl
  · obtain ⟨b, many, rfl, ⟨l, cs, hb, hl, hc⟩, m0, m1, kq⟩ := h
    obtain ⟨p, q, r, z, ok1⟩ := bag_open e0.hok hb
    have nbl : b ≠ l := fun e => by rw [e, hl] at hb; cases hb
    have e1 : Env0 P w K mg base A outer s (upd H b (.lst (bagL p q r l))) := by
      refine ⟨e0.frames, e0.mod, fun c o q => ?_, e0.bsz, e0.funs, fun c hc => ?_, ok1, e0.bare⟩
      · obtain ⟨x1, x2⟩ := e0.bs c o q
        exact ⟨x1, by rw [upd_ne (fun e => by rw [e, hb] at x2; cases x2)]; exact x2⟩
      · have x2 := e0.frf c hc
        rw [upd_ne (fun e => by rw [e, hb] at x2; cases x2)]; exact x2
    refine codeAny_mono (F.run A outer s _ args us [.ref b, .int many]
      (fun v H' => ∃ (x p' q' r' : Int), v = .int x ∧ 0 ≤ x ∧ x < many ∧ (0 ≤ p' ∧ 0 ≤ q' ∧ q' < 2147483647 ∧ 0 ≤ r') ∧ H' = upd (upd H b (.lst (bagL p q r l))) b (.lst (bagL p' q' r' l)))
      E rm e1 bd rv ⟨b, l, many, p, q, r, cs, rfl, upd_same, by rw [upd_ne nbl.symm]; exact hl, nbl, hc, z, m0, m1,
        fun x p' q' r' h0 h1 zz => ⟨x, p', q', r', rfl, h0, h1, zz, rfl⟩⟩) ?_
    intro r s' hq
    match r, hq with
    | .ok (.ret u), ⟨v, H', os, bare, un, ok', rv', x, p', q', r', ev, h0, h1, zz, eH⟩ =>
      subst eH
      rw [upd_upd] at un ok'
      have at_ := bag_close ok' upd_same zz
      have ok2 := hok_swap (u1 := BagO b l) ok' upd_same rfl (bag_objOk at_)
      rw [upd_upd, upd_self hb] at ok2
      exact ⟨v, H, os, bare, un_seal hb un, ok2, rv', by rw [ev]; exact kq x h0 h1⟩
theorem take_ofB (F : FnOk P w K mg base CX0 k f fd [nb, nm] spTakeB) : FnOk P w K mg base CX0 k f fd [nb, nm] spTake :=
  F.imp fun vs H Q E h => by
    obtain ⟨b, many, rfl, hb, m0, m1, k⟩ := h
    refine ⟨b, many, rfl, hb, m0, ?_, k⟩
    have : many.natAbs < 2 ^ 30 := by omega
    have h2 : many.natAbs.log2 < 30 := (Nat.log2_lt (by omega)).mpr this
    omega
end
end Gx

set_option Elab.async false
set_option linter.all false
set_option maxRecDepth 100000
set_option maxHeartbeats 4000000
namespace K12
open PySem PySem.Spec PyProof.Rows L2 Evl Gx
def topS (i : Nat) : Stmt := PySem.Challenge.pw_refusedahead_k12_spans_told.main.body.getD i (.Pass ⟨0, 0, 0, 0⟩)
abbrev s_l_bag : Stmt := topS 23
theorem sc_l_bag : FnScope ["_law_script", "_law_cell"] ["_law_script"] (defScope s_l_bag) := ⟨rfl, rfl, rfl, by decide +kernel, rfl, by decide +kernel, by decide +kernel⟩
abbrev s_l_take : Stmt := topS 24
theorem sc_l_take : FnScope ["_law_bag_here", "_law_many_here", "_law_cell", "_law_mixed", "_law_drawn", "_law_begin", "_law_second"] ["_law_bag_here", "_law_many_here"] (defScope s_l_take) := ⟨rfl, rfl, rfl, by decide +kernel, rfl, by decide +kernel, by decide +kernel⟩
section
variable {P : Program} {w : World} {K : PySem.W.Frag} {mg : Str → Option Value} {base : Heap}
theorem ok_bagI {f : Addr} {fd : FuncData} (D : Def K mg "_law_bag" s_l_bag f fd ["_law_script"]) (bi : Bi mg) :
    FnOk P w K mg base CX0 1 f fd ["_law_script"] (spBagI K) := by
  refine D.fn.ok sc_l_bag (fun vs H Q E h => ?_) (fun cdv A outer s H vs Q E hr h => ?_)
  · obtain ⟨a, ns, rfl, _⟩ := h
    rfl
  · obtain ⟨a, ns, rfl, hs, hl, k⟩ := h
    refine ⟨_, (pss_one (ps_ret (pe_lst (pa_cons pe_int (pa_cons pe_int (pa_cons pe_int (pa_cons (pe_lc (own := [("_law_cell", 1)]) rfl sc_l_bag.nd (pi_list (pe_slice sl_list (pv 0) po_none (po_some pe_int))) (blkOk_by (N := ["_law_script", "_law_cell"]) (sc := defScope s_l_bag) (by decide +kernel)) (fun _ _ _ _ _ => (pg_name (i := 1) sc_l_bag.nd rfl (Or.inl rfl))) (fun _ _ _ _ _ => pts_nil) (fun _ _ _ _ _ => (pe_callB call_abs (by rfl) bi.abs bt_abs (pa_cons (pv 1) pa_nil)))) pa_nil))))))), ?_⟩
    refine ⟨_, rfl, 63, rfl, a, ns.map V.int, rfl, hs, fun c hcn => ?_⟩
    have cut : cutV (ns.map V.int) none (some 63) = (ns.take 63).map V.int := by
      unfold cutV
      rw [show HT.sIx (ns.map V.int).length 0 none = 0 from rfl, List.drop_zero, Nat.sub_zero]
      have e : HT.sIx (ns.map V.int).length (ns.map V.int).length (some 63) = min 63 (ns.map V.int).length := rfl
      rw [e, List.map_take]
      by_cases q : 63 ≤ (ns.map V.int).length
      · rw [Nat.min_eq_left q]
      · rw [Nat.min_eq_right (by omega), List.take_length, List.take_of_length_le (by omega)]
    rw [cut]
    refine ⟨c, rfl, ⟨_, SqL.of upd_same⟩, fun d hd => ?_⟩
    refine lc_list (xs := (ns.take 63).map V.int) (fun i H' => H' c = some (.lst ((ns.take 63).map V.int)) ∧ Ex H H' ∧ H d = none ∧ d ≠ c ∧
      ∃ cs : List Int, H' d = some (.lst (cs.map V.int)) ∧ cs.length = i ∧ ∀ x ∈ cs, 0 ≤ x) ?_ (fun i H' _ p => SqL.of p.1) ?_ ?_
    · have ncd : d ≠ c := fun e => by subst e; rw [upd_same] at hd; cases hd
      have hd0 : H d = none := by rw [upd_ne ncd] at hd; exact hd
      refine ⟨by rw [upd_ne ncd.symm]; exact upd_same, ?_, hd0, ncd, [], upd_same, rfl, by simp⟩
      exact (Ex.new hcn).trans (Ex.new hd)
    · rintro i x H' hi ⟨p1, p2, p3, p4, cs, p5, p6, p7⟩
      obtain ⟨z, rfl⟩ : ∃ z, x = V.int z := by
        rw [List.getElem?_map] at hi
        obtain ⟨z, _, e⟩ := Option.map_eq_some_iff.mp hi
        exact ⟨z, e.symm⟩
      have hil : i < 63 := by
        have := (List.getElem?_eq_some_iff.mp hi).1
        rw [List.length_map, List.length_take] at this
        omega
      refine ⟨rfl, _, rfl, z, rfl, cs.map V.int, p5, by rw [List.length_map]; exact small1000 (by omega), ?_⟩
      refine ⟨by rw [upd_ne p4.symm]; exact p1, p2.mut p3, p3, p4, cs ++ [if z < 0 then -z else z], ?_, by simp [p6], ?_⟩
      · rw [upd_same, List.map_append]; rfl
      · intro y hy
        rcases List.mem_append.mp hy with q | q
        · exact p7 y q
        · rw [List.mem_singleton] at q; subst q; split <;> omega
    · rintro H' ⟨p1, p2, p3, p4, cs, p5, p6, p7⟩
      refine ⟨by show 4 ≤ sizeLine; decide, fun p hp => ?_⟩
      have ndp : d ≠ p := fun e => by subst e; rw [p5] at hp; cases hp
      exact k p d cs _ (ex_upd p2 hp) (fresh_back p2 hp) upd_same (by rw [upd_ne ndp]; exact p5) p7
theorem ok_takeI {f : Addr} {fd : FuncData} (D : Def K mg "_law_take" s_l_take f fd ["_law_bag_here", "_law_many_here"]) (bi : Bi mg) :
    FnOk P w K mg base CX0 1 f fd ["_law_bag_here", "_law_many_here"] spTakeIB := by
  refine D.fn.ok sc_l_take (fun vs H Q E h => ?_) (fun cdv A outer s H vs Q E hr h => ?_)
  · obtain ⟨b, l, many, p, q, r, cs, rfl, _⟩ := h
    rfl
  · obtain ⟨b, l, many, p, q, r, cs, rfl, hb, hl, nbl, hc, z, m0, m1, k⟩ := h
    refine ⟨_, (Evl.pss_cut (ps_if (pt_cmpR op_eq (pe_ix ix_list (pv 0) pe_int (fun _ _ => rfl)) pe_int (nomark _))
    (pss_cons (ps_set (i := 2) sc_l_take.nd rfl (Or.inl rfl) pe_int)
    (Evl.pss_cut (ps_if (pt_cmpR op_lt (pe_ix ix_list (pv 0) pe_int (fun _ _ => rfl)) (pe_callB call_len_seq (by rfl) bi.len bt_len (pa_cons (pe_ix ix_list (pv 0) pe_int (fun _ _ => rfl)) pa_nil)) (nomark _))
      (pss_one (ps_set (i := 2) sc_l_take.nd rfl (Or.inl rfl) (pe_ix ix_list (pe_ix ix_list (pv 0) pe_int (fun _ _ => rfl)) (pe_ix ix_list (pv 0) pe_int (fun _ _ => rfl)) (fun _ _ => rfl))))
      pss_nil)
    (pss_cons (ps_augS (pv 0) pe_int get_list pe_int ip_add set_list)
    (Evl.pss_cut (ps_if (pt_cmpR op_ge (pv 2) (pe_op op_pow pe_int pe_int) (nomark _))
      (pss_one (ps_asg (pv 2) (pg_sub (pv 0) pe_int set_list)))
      pss_nil)
    (pss_cons (ps_set (i := 3) sc_l_take.nd rfl (Or.inl rfl) (pe_op op_add (pe_op op_add (pe_op op_mul (pe_ix ix_list (pv 0) pe_int (fun _ _ => rfl)) pe_int) (pe_op op_mod (pe_callTy call_int1 (by rfl) bi.int bt_int (pa_cons (pv 2) pa_nil)) pe_int)) (pe_op op_mul pe_int (pe_ix ix_list (pv 0) pe_int (fun _ _ => rfl)))))
    (pss_one (ps_asg (pe_op op_mod (pe_callTy call_int1 (by rfl) bi.int bt_int (pa_cons (pv 3) pa_nil)) pe_int) (pg_sub (pv 0) pe_int set_list))))))))
    pss_nil)
  (pss_cons (ps_if (pt_cmpR op_gt (pe_ix ix_list (pv 0) pe_int (fun _ _ => rfl)) pe_int (nomark _))
    (pss_cons (ps_set (i := 4) sc_l_take.nd rfl (Or.inl rfl) (pe_op op_mod (pe_callTy call_int1 (by rfl) bi.int bt_int (pa_cons (pe_ix ix_list (pv 0) pe_int (fun _ _ => rfl)) pa_nil)) (pv 1)))
    (pss_cons (ps_asg (pe_op op_fdivZ (pe_ix ix_list (pv 0) pe_int (fun _ _ => rfl)) (pv 1)) (pg_sub (pv 0) pe_int set_list))
    (pss_one (ps_ret (pv 4)))))
    pss_nil)
  (pss_cons (ps_set (i := 5) sc_l_take.nd rfl (Or.inl rfl) (pe_op op_mod (pe_callTy call_int1 (by rfl) bi.int bt_int (pa_cons (pe_op op_mul (pe_op op_add (pe_ix ix_list (pv 0) pe_int (fun _ _ => rfl)) pe_int) pe_int) pa_nil)) pe_int))
  (pss_cons (ps_set (i := 6) sc_l_take.nd rfl (Or.inl rfl) (pe_op op_mod (pe_callTy call_int1 (by rfl) bi.int bt_int (pa_cons (pe_op op_mul (pe_op op_mod (pe_callTy call_int1 (by rfl) bi.int bt_int (pa_cons (pe_op op_mul (pv 5) (pv 5)) pa_nil)) pe_int) pe_int) pa_nil)) pe_int))
  (pss_one (ps_ret (pe_op op_mod (pe_callTy call_int1 (by rfl) bi.int bt_int (pa_cons (pe_op op_fdiv (pv 6) pe_int) pa_nil)) (pv 1)))))))), ?_⟩
    -- between the statements: the list holds some four
    refine ⟨fun σ H' => ∃ (p' q' r' : Int) (x5 x6 x7 x8 x9 : Option V), σ = [some (.ref b), some (.int many), x5, x6, x7, x8, x9] ∧
      (0 ≤ p' ∧ 0 ≤ q' ∧ q' < 2147483647 ∧ 0 ≤ r') ∧ H' = upd H b (.lst (bagL p' q' r' l)), ?_, ?_⟩
    · -- if _law_bag_here[0] == 0
      refine ⟨_, rfl, b, bagL p q r l, 0, .int p, rfl, rfl, SqL.of hb, rfl, rfl, _, rfl, ?_⟩
      refine if_d (fun _ => ?_) (fun _ => ⟨p, q, r, none, none, none, none, none, rfl, z, (upd_self hb).symm⟩)
      refine ⟨fun σ H' => ∃ c : Int, σ = [some (.ref b), some (.int many), some (.int c), none, none, none, none] ∧ 0 ≤ c ∧ H' = H, ?_, ?_⟩
      · refine ⟨_, rfl, b, bagL p q r l, 2, .int r, rfl, rfl, SqL.of hb, rfl, _, rfl, b, bagL p q r l, 3, .ref l, rfl, rfl, SqL.of hb, rfl,
          l, cs.map V.int, rfl, .inl (SqL.of hl), r, (cs.map V.int).length, rfl, rfl, _, rfl, ?_⟩
        refine if_d (fun hlt => ?_) (fun _ => ⟨0, rfl, by omega, rfl⟩)
        rw [List.length_map] at hlt
        obtain ⟨v, hv, hm⟩ := get_of (xs := cs) (i := r) z.2.2.2 hlt
        refine ⟨_, rfl, b, bagL p q r l, 3, .ref l, rfl, rfl, SqL.of hb, rfl, _, rfl, b, bagL p q r l, 2, .int r, rfl, rfl, SqL.of hb, rfl,
          l, cs.map V.int, r, .int v, rfl, rfl, SqL.of hl, atI_of z.2.2.2 (by rw [List.getElem?_map, hv]; rfl), v, rfl, hc v hm, rfl⟩
      · rintro σ H' ⟨c, rfl, hc0, eH⟩
        have eH := eH.symm; subst eH
        -- _law_bag_here[2] += 1
        refine ⟨_, rfl, b, bagL p q r l, 2, .int r, rfl, rfl, SqL.of hb, by decide, by decide, rfl, r, 1, rfl, rfl, b, bagL p q r l, 2, 2, rfl, rfl, hb, rfl, ?_⟩
        refine ⟨fun σ H' => ∃ p' : Int, σ = [some (.ref b), some (.int many), some (.int c), none, none, none, none] ∧ 0 ≤ p' ∧
          H' = upd H b (.lst (bagL p' q (r + 1) l)), ?_, ?_⟩
        · refine ⟨_, rfl, 10, 18, rfl, rfl, ⟨by decide, by decide, by decide⟩, c, _, rfl, rfl, _, rfl, ?_⟩
          refine if_d (fun _ => ?_) (fun _ => ⟨p, rfl, z.1, rfl⟩)
          refine ⟨_, rfl, _, rfl, b, bagL p q (r + 1) l, 0, 0, rfl, rfl, upd_same, rfl, c, rfl, hc0, ?_⟩
          rw [upd_upd]; rfl
        · rintro σ H' ⟨p', rfl, hp', rfl⟩
          refine ⟨_, rfl, b, bagL p' q (r + 1) l, 1, .int q, rfl, rfl, SqL.of upd_same, rfl, q, 48271, rfl, rfl, .inr ⟨by decide, by decide⟩, ?_⟩
          refine ⟨_, rfl, .inl ⟨c, rfl, c, 2147483647, rfl, rfl, (by show (0 : Int) < 2147483647; decide), q * 48271, c % 2147483647, rfl, rfl, ?_⟩⟩
          refine ⟨_, rfl, b, bagL p' q (r + 1) l, 2, .int (r + 1), rfl, rfl, SqL.of upd_same, rfl, 7919, r + 1, rfl, rfl, .inl ⟨by decide, by decide⟩, _, _, rfl, rfl, ?_⟩
          refine ⟨_, rfl, .inl ⟨_, rfl, _, 2147483647, rfl, rfl, (by show (0 : Int) < 2147483647; decide), ?_⟩⟩
          refine ⟨_, rfl, b, bagL p' q (r + 1) l, 1, 1, rfl, rfl, upd_same, rfl, ?_⟩
          refine ⟨p', (q * 48271 + c % 2147483647 + 7919 * (r + 1)) % 2147483647, r + 1, _, _, _, _, _, rfl, ⟨hp', Int.emod_nonneg _ (by decide), Int.emod_lt_of_pos _ (by decide), by omega⟩, ?_⟩
          rw [upd_upd]; rfl
    · rintro σ H' ⟨p', q', r', x5, x6, x7, x8, x9, rfl, z', eH⟩
      subst eH
      refine ⟨_, rfl, b, bagL p' q' r' l, 0, .int p', rfl, rfl, SqL.of upd_same, rfl, p', 0, rfl, rfl, _, rfl, ?_⟩
      refine if_d (fun hp => ?_) (fun _ => ?_)
      · -- a number is left of a great one
        refine ⟨_, rfl, b, bagL p' q' r' l, 0, .int p', rfl, rfl, SqL.of upd_same, rfl, .inl ⟨p', rfl, _, rfl, p', many, rfl, rfl, m0, ?_⟩⟩
        refine ⟨_, rfl, b, bagL p' q' r' l, 0, .int p', rfl, rfl, SqL.of upd_same, rfl, _, rfl, p', many, rfl, rfl, ⟨by omega, m1⟩, ?_⟩
        refine ⟨_, rfl, b, bagL p' q' r' l, 0, 0, rfl, rfl, upd_same, rfl, ?_⟩
        refine ⟨_, rfl, ?_⟩
        rw [upd_upd]
        exact k (p' % many) (p'.fdiv many) q' r' (Int.emod_nonneg _ (by omega)) (Int.emod_lt_of_pos _ m0) ⟨by rw [Int.fdiv_eq_ediv_of_nonneg p' (show 0 ≤ many by omega)]; exact Int.ediv_nonneg z'.1 (by omega), z'.2⟩
      · refine ⟨_, rfl, b, bagL p' q' r' l, 1, .int q', rfl, rfl, SqL.of upd_same, rfl, q', 1, rfl, rfl, _, 39373, rfl, rfl, .inr ⟨by decide, by decide⟩, ?_⟩
        refine .inl ⟨_, rfl, _, 1000000007, rfl, rfl, (by show (0 : Int) < 1000000007; decide), ?_⟩
        have g1 : 0 ≤ (q' + 1) * 39373 % 1000000007 := Int.emod_nonneg _ (by decide)
        have g2 : (q' + 1) * 39373 % 1000000007 < 1000000007 := Int.emod_lt_of_pos _ (by decide)
        refine ⟨_, rfl, _, rfl, _, _, rfl, rfl, .inl ⟨by omega, by omega⟩, ?_⟩
        refine .inl ⟨_, rfl, _, 998244353, rfl, rfl, (by show (0 : Int) < 998244353; decide), _, 30011, rfl, rfl, .inr ⟨by decide, by decide⟩, ?_⟩
        refine .inl ⟨_, rfl, _, 998244353, rfl, rfl, (by show (0 : Int) < 998244353; decide), ?_⟩
        refine ⟨_, rfl, _, 7, rfl, rfl, ⟨by decide, by decide⟩, ?_⟩
        refine .inl ⟨_, rfl, _, rfl, _, many, rfl, rfl, m0, ?_⟩
        exact k _ p' q' r' (Int.emod_nonneg _ (by omega)) (Int.emod_lt_of_pos _ m0) z'
end
end K12

set_option Elab.async false
set_option linter.all false
set_option maxRecDepth 100000
set_option maxHeartbeats 4000000
namespace Gx
open PySem PySem.Spec PyProof.Rows L2 Evl
/-! What conditions answer at a row, leaf by leaf, and what they answer when turned about. -/
def exch (w : Str) : Str := if w = "yes" then "no" else if w = "no" then "yes" else w
def agreesB (m : Int) (sg : Str) (k : Int) : Bool :=
  if m < k then decide (sg ∈ (["<", "<=", "<>"] : List Str)) else if m > k then decide (sg ∈ (["<>", ">", ">="] : List Str)) else decide (sg ∈ (["<=", "=", ">="] : List Str))
def numV : V → Str
  | .non => "unknown"
  | .int _ => "yes"
  | _ => "no"
def askV (ss : List Stp) (sg : Str) (k : Int) : V → Str
  | .non => "unknown"
  | .int i => match leadAll ss i with
    | some m => if agreesB m sg k = true then "yes" else "no"
    | none => "error"
  | _ => "error"
def leafAns (R : Str → V) : Leaf → Str
  | .always w => w
  | .empty n => if R n = .non then "yes" else "no"
  | .number n => numV (R n)
  | .asks n ss sg k => askV ss sg k (R n)
theorem askV_some {ss : List Stp} {sg : Str} {k i m : Int} (h : leadAll ss i = some m) : askV ss sg k (.int i) = (if agreesB m sg k = true then ("yes" : Str) else "no") := by
  show (match leadAll ss i with | some m => if agreesB m sg k = true then ("yes" : Str) else "no" | none => "error") = _
  rw [h]
theorem askV_none {ss : List Stp} {sg : Str} {k i : Int} (h : leadAll ss i = none) : askV ss sg k (.int i) = "error" := by
  show (match leadAll ss i with | some m => if agreesB m sg k = true then ("yes" : Str) else "no" | none => "error") = _
  rw [h]
abbrev Res := Str × List PyData
def allOf (dec : Str) : Str → List Res → Res
  | found, [] => (found, [])
  | found, r :: rs => if r.1 = "error" ∨ r.1 = dec then r else
      ((allOf dec (if r.1 = "unknown" then r.1 else found) rs).1, r.2 ++ (allOf dec (if r.1 = "unknown" then r.1 else found) rs).2)
def firstOf : List Res → Res
  | [] => ("unknown", [])
  | r :: rs => if r.1 = "unknown" then ((firstOf rs).1, r.2 ++ (firstOf rs).2) else r
def caseOf : List Res → List Res → Res → Res
  | r :: rs, t :: ts, e => if r.1 = "error" then r else if r.1 = "yes" then (t.1, r.2 ++ t.2) else ((caseOf rs ts e).1, r.2 ++ (caseOf rs ts e).2)
  | _, _, e => e
def nodeOf (k : Str) (rs : List Res) : Res := if k = "first" then firstOf rs else if k = "all" then allOf "no" "yes" rs else allOf "yes" "no" rs
def entry (adr : List Int) (w : Str) : PyData := .tuple [.tuple (adr.map PyData.int), .str w]
mutual
def run (R : Str → V) : List Int → Cnd → Res
  | adr, .leaf l => (leafAns R l, [entry adr (leafAns R l)])
  | adr, .not c => (exch (run R (adr ++ [0]) c).1, (run R (adr ++ [0]) c).2)
  | adr, .node k cs => nodeOf k (runL R adr 0 1 cs)
  | adr, .case ws ts e => caseOf (runL R adr 0 2 ws) (runL R adr 1 2 ts) (run R (adr ++ [2 * (ws.length : Int)]) e)
def runL (R : Str → V) : List Int → Int → Int → List Cnd → List Res
  | _, _, _, [] => []
  | adr, i, st, c :: cs => run R (adr ++ [i]) c :: runL R adr (i + st) st cs
end
def turnK (k : Str) : Str := if k = "first" then "first" else if k = "all" then "any" else "all"
def Leaf.turn : Leaf → Cnd
  | .always w => .leaf (.always (exch w))
  | l => .not (.leaf l)
mutual
def Cnd.turn : Cnd → Cnd
  | .leaf l => l.turn
  | .not c => c
  | .node k cs => .node (turnK k) (Cnd.turnL cs)
  | .case ws ts e => .case ws (Cnd.turnL ts) e.turn
def Cnd.turnL : List Cnd → List Cnd
  | [] => []
  | c :: cs => c.turn :: Cnd.turnL cs
end
theorem Cnd.turnL_map : ∀ cs : List Cnd, Cnd.turnL cs = cs.map Cnd.turn
  | [] => rfl
  | c :: cs => by rw [Cnd.turnL, Cnd.turnL_map cs]; rfl
/-! ### answers by another naming -/
structure Ren (f : Str → Str) : Prop where
  inj : ∀ x y, f x = f y → x = y
  err : f "error" = "error"
  unk : f "unknown" = "unknown"
structure Sim (f : Str → Str) (r r' : Res) : Prop where
  ans : r'.1 = f r.1
  len : r'.2.length = r.2.length
theorem exch_exch (w : Str) : exch (exch w) = w := by
  unfold exch
  by_cases h1 : w = "yes"
  · subst h1; decide +kernel
  · by_cases h2 : w = "no"
    · subst h2; decide +kernel
    · rw [if_neg h1, if_neg h2, if_neg h1, if_neg h2]
theorem ren_exch : Ren exch := ⟨fun x y h => by have := congrArg exch h; rwa [exch_exch, exch_exch] at this, by decide +kernel, by decide +kernel⟩
theorem ren_id : Ren id := ⟨fun _ _ h => h, rfl, rfl⟩
theorem Ren.iff {f : Str → Str} (F : Ren f) {x y : Str} : f x = f y ↔ x = y := ⟨F.inj x y, fun h => by rw [h]⟩
theorem Ren.erri {f : Str → Str} (F : Ren f) {x : Str} : f x = "error" ↔ x = "error" := by rw [← F.iff (x := x), F.err]
theorem Ren.unki {f : Str → Str} (F : Ren f) {x : Str} : f x = "unknown" ↔ x = "unknown" := by rw [← F.iff (x := x), F.unk]
inductive Sims (f : Str → Str) : List Res → List Res → Prop
  | nil : Sims f [] []
  | cons {r r' : Res} {rs rs' : List Res} : Sim f r r' → Sims f rs rs' → Sims f (r :: rs) (r' :: rs')
theorem allOf_sim {f : Str → Str} (F : Ren f) {dec : Str} {rs rs' : List Res} (h : Sims f rs rs') : ∀ found, Sim f (allOf dec found rs) (allOf (f dec) (f found) rs') := by
  induction h with
  | nil => intro found; exact ⟨rfl, rfl⟩
  | @cons r r' rs rs' h1 h2 ih =>
    intro found
    unfold allOf
    rw [h1.ans]
    by_cases c : r.1 = "error" ∨ r.1 = dec
    · rw [if_pos c, if_pos (c.imp F.erri.mpr F.iff.mpr)]
      exact ⟨h1.ans, h1.len⟩
    · rw [if_neg c, if_neg (show ¬ (f r.1 = "error" ∨ f r.1 = f dec) from fun e => c (e.imp F.erri.mp F.iff.mp))]
      have e : (if f r.1 = "unknown" then f r.1 else f found) = f (if r.1 = "unknown" then r.1 else found) := by
        by_cases u : r.1 = "unknown"
        · rw [if_pos u, if_pos (F.unki.mpr u)]
        · rw [if_neg u, if_neg (fun z => u (F.unki.mp z))]
      rw [e]
      have := ih (if r.1 = "unknown" then r.1 else found)
      exact ⟨this.ans, by simp only [List.length_append, h1.len, this.len]⟩
theorem firstOf_sim {f : Str → Str} (F : Ren f) {rs rs' : List Res} (h : Sims f rs rs') : Sim f (firstOf rs) (firstOf rs') := by
  induction h with
  | nil => exact ⟨F.unk.symm, rfl⟩
  | @cons r r' rs rs' h1 h2 ih =>
    unfold firstOf
    rw [h1.ans]
    by_cases c : r.1 = "unknown"
    · rw [if_pos c, if_pos (F.unki.mpr c)]
      exact ⟨ih.ans, by simp only [List.length_append, h1.len, ih.len]⟩
    · rw [if_neg c, if_neg (fun z => c (F.unki.mp z))]
      exact ⟨h1.ans, h1.len⟩
theorem caseOf_sim {f : Str → Str} {rs rs' : List Res} (h : Sims id rs rs') : ∀ {ts ts' : List Res} {e e' : Res}, Sims f ts ts' → Sim f e e' → (f "error" = "error") →
    Sim f (caseOf rs ts e) (caseOf rs' ts' e') := by
  induction h with
  | nil => intro ts ts' e e' _ he _; unfold caseOf; exact he
  | @cons r r' rs rs' h1 h2 ih =>
    intro ts ts' e e' ht he fe
    cases ht with
    | nil => exact he
    | @cons t t' ts ts' t1 t2 =>
      unfold caseOf
      have a : r'.1 = r.1 := h1.ans
      rw [a]
      by_cases c : r.1 = "error"
      · rw [if_pos c, if_pos c]; exact ⟨by rw [a, c, fe], h1.len⟩
      · rw [if_neg c, if_neg c]
        by_cases y : r.1 = "yes"
        · rw [if_pos y, if_pos y]; exact ⟨t1.ans, by simp only [List.length_append, h1.len, t1.len]⟩
        · rw [if_neg y, if_neg y]
          have := ih t2 he fe
          exact ⟨this.ans, by simp only [List.length_append, h1.len, this.len]⟩
mutual
theorem run_adr (R : Str → V) : ∀ (c : Cnd) (a a' : List Int), Sim id (run R a c) (run R a' c)
  | .leaf l, a, a' => by simp only [run]; exact ⟨rfl, rfl⟩
  | .not c, a, a' => by
    have := run_adr R c (a ++ [0]) (a' ++ [0])
    simp only [run]
    exact ⟨by show exch _ = exch _; rw [this.ans]; rfl, this.len⟩
  | .node k cs, a, a' => by
    have := runL_adr R cs a a' 0 0 1 1
    simp only [run]
    unfold nodeOf
    by_cases h1 : k = "first"
    · rw [if_pos h1, if_pos h1]; exact firstOf_sim ren_id this
    · rw [if_neg h1, if_neg h1]
      by_cases h2 : k = "all"
      · rw [if_pos h2, if_pos h2]; exact allOf_sim ren_id this _
      · rw [if_neg h2, if_neg h2]; exact allOf_sim ren_id this _
  | .case ws ts e, a, a' => by
    simp only [run]
    exact caseOf_sim (runL_adr R ws a a' 0 0 2 2) (runL_adr R ts a a' 1 1 2 2) (run_adr R e _ _) rfl
theorem runL_adr (R : Str → V) : ∀ (cs : List Cnd) (a a' : List Int) (i i' st st' : Int), Sims id (runL R a i st cs) (runL R a' i' st' cs)
  | [], _, _, _, _, _, _ => by simp only [runL]; exact .nil
  | c :: cs, a, a', i, i', st, st' => by simp only [runL]; exact .cons (run_adr R c _ _) (runL_adr R cs a a' _ _ _ _)
end
theorem leaf_turn (R : Str → V) (l : Leaf) (a : List Int) : Sim exch (run R a (.leaf l)) (run R a l.turn) := by
  cases l <;> (simp only [Leaf.turn, run, leafAns]; exact ⟨rfl, rfl⟩)
mutual
theorem run_turn (R : Str → V) : ∀ (c : Cnd) (a : List Int), Sim exch (run R a c) (run R a c.turn)
  | .leaf l, a => by rw [Cnd.turn]; exact leaf_turn R l a
  | .not c, a => by
    have := run_adr R c (a ++ [0]) a
    rw [Cnd.turn]
    have e : run R a (.not c) = (exch (run R (a ++ [0]) c).1, (run R (a ++ [0]) c).2) := by simp only [run]
    rw [e]
    exact ⟨by show (run R a c).1 = exch (exch _); rw [exch_exch, this.ans]; rfl, this.len⟩
  | .node k cs, a => by
    have := runL_turn R cs a 0 1
    rw [Cnd.turn]
    simp only [run]
    unfold nodeOf turnK
    by_cases h1 : k = "first"
    · rw [if_pos h1, if_pos h1, if_pos rfl]; exact firstOf_sim ren_exch this
    · rw [if_neg h1, if_neg h1]
      by_cases h2 : k = "all"
      · rw [if_pos h2, if_pos h2, if_neg (by decide +kernel), if_neg (by decide +kernel)]
        exact allOf_sim (dec := "no") ren_exch this "yes"
      · rw [if_neg h2, if_neg h2, if_neg (by decide +kernel), if_pos rfl]
        exact allOf_sim (dec := "yes") ren_exch this "no"
  | .case ws ts e, a => by
    rw [Cnd.turn]
    simp only [run]
    exact caseOf_sim (runL_adr R ws a a 0 0 2 2) (runL_turn R ts a 1 2) (run_turn R e _) (by decide +kernel)
theorem runL_turn (R : Str → V) : ∀ (cs : List Cnd) (a : List Int) (i st : Int), Sims exch (runL R a i st cs) (runL R a i st (Cnd.turnL cs))
  | [], _, _, _ => by rw [Cnd.turnL]; simp only [runL]; exact .nil
  | c :: cs, a, i, st => by rw [Cnd.turnL]; simp only [runL]; exact .cons (run_turn R c _) (runL_turn R cs a _ _)
end
theorem len_turnL (cs : List Cnd) : (Cnd.turnL cs).length = cs.length := by rw [Cnd.turnL_map, List.length_map]
/-! ### what is turned is a condition, little greater -/
theorem word_exch {w : Str} (h : w ∈ words) : exch w ∈ words := by
  have : ∀ w ∈ words, exch w ∈ words := by decide +kernel
  exact this w h
theorem kind_turn {k : Str} (h : k ∈ kinds) : turnK k ∈ kinds := by
  have : ∀ k ∈ kinds, turnK k ∈ kinds := by decide +kernel
  exact this k h
mutual
theorem ok_turn {ns : List Str} : ∀ (c : Cnd), c.ok ns → c.turn.ok ns
  | .leaf l, h => by
    rw [Cnd.turn]
    cases l with
    | always w => exact word_exch h
    | _ => exact h
  | .not c, h => by rw [Cnd.turn]; rw [Cnd.ok] at h; exact h
  | .node k cs, h => by rw [Cnd.turn, Cnd.ok]; rw [Cnd.ok] at h; exact ⟨kind_turn h.1, okL_turn cs h.2⟩
  | .case ws ts e, h => by rw [Cnd.turn, Cnd.ok]; rw [Cnd.ok] at h; exact ⟨by rw [len_turnL]; exact h.1, h.2.1, okL_turn ts h.2.2.1, ok_turn e h.2.2.2⟩
theorem okL_turn {ns : List Str} : ∀ (cs : List Cnd), Cnd.okL ns cs → Cnd.okL ns (Cnd.turnL cs)
  | [], h => by rw [Cnd.turnL]; exact h
  | c :: cs, h => by rw [Cnd.turnL, Cnd.okL]; rw [Cnd.okL] at h; exact ⟨ok_turn c h.1, okL_turn cs h.2⟩
end
mutual
theorem depth_turn : ∀ (c : Cnd), c.turn.depth ≤ c.depth + 1
  | .leaf l => by rw [Cnd.turn]; cases l <;> simp [Leaf.turn, Cnd.depth]
  | .not c => by rw [Cnd.turn, Cnd.depth]; omega
  | .node k cs => by rw [Cnd.turn, Cnd.depth, Cnd.depth]; have := depthL_turn cs; omega
  | .case ws ts e => by rw [Cnd.turn, Cnd.depth, Cnd.depth]; have := depthL_turn ts; have := depth_turn e; omega
theorem depthL_turn : ∀ (cs : List Cnd), Cnd.depthL (Cnd.turnL cs) ≤ Cnd.depthL cs + 1
  | [] => by rw [Cnd.turnL, Cnd.depthL]; omega
  | c :: cs => by rw [Cnd.turnL, Cnd.depthL, Cnd.depthL]; have := depth_turn c; have := depthL_turn cs; omega
end
mutual
theorem weight_turn : ∀ (c : Cnd), 5000 * c.turn.weight ≤ 5001 * c.weight
  | .leaf l => by rw [Cnd.turn]; cases l <;> simp [Leaf.turn, Cnd.weight]
  | .not c => by rw [Cnd.turn, Cnd.weight]; omega
  | .node k cs => by rw [Cnd.turn, Cnd.weight, Cnd.weight]; have := weightL_turn cs; omega
  | .case ws ts e => by rw [Cnd.turn, Cnd.weight, Cnd.weight]; have := weightL_turn ts; have := weight_turn e; omega
theorem weightL_turn : ∀ (cs : List Cnd), 5000 * Cnd.weightL (Cnd.turnL cs) ≤ 5001 * Cnd.weightL cs
  | [] => by rw [Cnd.turnL, Cnd.weightL]; omega
  | c :: cs => by rw [Cnd.turnL, Cnd.weightL, Cnd.weightL]; have := weight_turn c; have := weightL_turn cs; omega
end
end Gx

set_option Elab.async false
set_option linter.all false
set_option maxRecDepth 100000
set_option maxHeartbeats 4000000
namespace Gx
open PySem PySem.Spec PyProof.Rows L2 Evl
/-! Asking with a list that grows: what stands, what the list holds. -/
/-- all stands but what lies at one address -/
def ExB (tr : Addr) (H H' : Hp) : Prop := ∀ a o, a ≠ tr → H a = some o → H' a = some o
theorem ExB.of {tr : Addr} {H H' : Hp} (e : Ex H H') : ExB tr H H' := fun a o _ h => e a o h
theorem ExB.trans {tr : Addr} {H H1 H2 : Hp} (a : ExB tr H H1) (b : ExB tr H1 H2) : ExB tr H H2 := fun c o n h => b c o n (a c o n h)
theorem ExB.toI {tr : Addr} {H H' : Hp} {ts : List V} (h : H tr = some (.lst ts)) (e : ExB tr H H') : ExI H H' := fun a o q i => by
  refine e a o (fun z => ?_) q
  subst z
  rw [h] at q
  cases q
  cases i
theorem ExB.put {tr : Addr} {H : Hp} {o : HO} : ExB tr H (upd H tr o) := fun a u n h => by rw [upd_ne n]; exact h
/-- what the list holds: addresses with what was said there -/
def Ents (K : PySem.W.Frag) (H : Hp) : List V → List PyData → Prop
  | [], [] => True
  | v :: vs, d :: ds => (∃ (e ad : Addr) (adr : List Int) (w : Str), v = .ref e ∧ d = entry adr w ∧ SqT K H e [.ref ad, .str w] ∧ SqT K H ad (adr.map V.int)) ∧ Ents K H vs ds
  | _, _ => False
section
variable {K : PySem.W.Frag} {H H' : Hp}
theorem ents_toI (e : ExI H H') : ∀ {vs : List V} {ds : List PyData}, Ents K H vs ds → Ents K H' vs ds
  | [], [], _ => trivial
  | _ :: _, _ :: _, ⟨⟨a, ad, adr, w, h1, h2, h3, h4⟩, t⟩ => ⟨⟨a, ad, adr, w, h1, h2, e.sq h3, e.sq h4⟩, ents_toI e t⟩
  | [], _ :: _, h => h.elim
  | _ :: _, [], h => h.elim
theorem ents_app : ∀ {vs ws : List V} {ds es : List PyData}, Ents K H vs ds → Ents K H ws es → Ents K H (vs ++ ws) (ds ++ es)
  | [], ws, [], es, _, h => h
  | _ :: _, ws, _ :: _, es, ⟨a, t⟩, h => ⟨a, ents_app t h⟩
  | [], _, _ :: _, _, h, _ => h.elim
  | _ :: _, _, [], _, h, _ => h.elim
theorem ents_len : ∀ {vs : List V} {ds : List PyData}, Ents K H vs ds → vs.length = ds.length
  | [], [], _ => rfl
  | _ :: _, _ :: _, ⟨_, t⟩ => by simp [ents_len t]
  | [], _ :: _, h => h.elim
  | _ :: _, [], h => h.elim
end
/-! ### runs, part by part -/
theorem runL_get (R : Str → V) : ∀ (cs : List Cnd) (adr : List Int) (i st : Int) (j : Nat) (c : Cnd), cs[j]? = some c → (runL R adr i st cs)[j]? = some (run R (adr ++ [i + j * st]) c)
  | [], _, _, _, _, _, h => by simp at h
  | a :: cs, adr, i, st, 0, c, h => by
    simp at h; subst h
    simp [runL]
  | a :: cs, adr, i, st, j + 1, c, h => by
    rw [runL, List.getElem?_cons_succ, runL_get R cs adr (i + st) st j c (by simpa using h)]
    rw [show i + st + (j : Int) * st = i + ((j + 1 : Nat) : Int) * st by rw [Int.natCast_add, Int.add_mul]; omega]
theorem runL_len (R : Str → V) : ∀ (cs : List Cnd) (adr : List Int) (i st : Int), (runL R adr i st cs).length = cs.length
  | [], _, _, _ => by simp [runL]
  | a :: cs, adr, i, st => by simp [runL, runL_len R cs]
theorem allOf_step {dec found : Str} {r : Res} {rs : List Res} {i : Nat} (h : rs[i]? = some r) :
    allOf dec found (rs.drop i) = if r.1 = "error" ∨ r.1 = dec then r else
      ((allOf dec (if r.1 = "unknown" then r.1 else found) (rs.drop (i + 1))).1, r.2 ++ (allOf dec (if r.1 = "unknown" then r.1 else found) (rs.drop (i + 1))).2) := by
  have e : rs.drop i = r :: rs.drop (i + 1) := by
    obtain ⟨h1, h2⟩ := List.getElem?_eq_some_iff.mp h
    rw [← h2]; exact List.drop_eq_getElem_cons h1
  rw [e, allOf]
theorem firstOf_step {r : Res} {rs : List Res} {i : Nat} (h : rs[i]? = some r) :
    firstOf (rs.drop i) = if r.1 = "unknown" then ((firstOf (rs.drop (i + 1))).1, r.2 ++ (firstOf (rs.drop (i + 1))).2) else r := by
  have e : rs.drop i = r :: rs.drop (i + 1) := by
    obtain ⟨h1, h2⟩ := List.getElem?_eq_some_iff.mp h
    rw [← h2]; exact List.drop_eq_getElem_cons h1
  rw [e, firstOf]
theorem caseOf_step {r t e : Res} {rs ts : List Res} {i : Nat} (h : rs[i]? = some r) (h' : ts[i]? = some t) :
    caseOf (rs.drop i) (ts.drop i) e = if r.1 = "error" then r else if r.1 = "yes" then (t.1, r.2 ++ t.2) else
      ((caseOf (rs.drop (i + 1)) (ts.drop (i + 1)) e).1, r.2 ++ (caseOf (rs.drop (i + 1)) (ts.drop (i + 1)) e).2) := by
  have e1 : rs.drop i = r :: rs.drop (i + 1) := by
    obtain ⟨h1, h2⟩ := List.getElem?_eq_some_iff.mp h
    rw [← h2]; exact List.drop_eq_getElem_cons h1
  have e2 : ts.drop i = t :: ts.drop (i + 1) := by
    obtain ⟨h1, h2⟩ := List.getElem?_eq_some_iff.mp h'
    rw [← h2]; exact List.drop_eq_getElem_cons h1
  rw [e1, e2, caseOf]
/-! ### what is answered is one of four words -/
theorem word_ite {c : Prop} [Decidable c] {a b : Str} (h : a ∈ words) (h' : b ∈ words) : (if c then a else b) ∈ words := by split <;> assumption
theorem w_yes : ("yes" : Str) ∈ words := by decide +kernel
theorem w_no : ("no" : Str) ∈ words := by decide +kernel
theorem w_unk : ("unknown" : Str) ∈ words := by decide +kernel
theorem w_err : ("error" : Str) ∈ words := by decide +kernel
theorem numV_word (x : V) : numV x ∈ words := by
  unfold numV
  split
  · exact w_unk
  · exact w_yes
  · exact w_no
theorem askV_word (ss : List Stp) (sg : Str) (k : Int) (x : V) : askV ss sg k x ∈ words := by
  cases x with
  | non => exact w_unk
  | int i =>
    cases e : leadAll ss i with
    | some m => rw [askV_some e]; exact word_ite w_yes w_no
    | none => rw [askV_none e]; exact w_err
  | _ => exact w_err
theorem leaf_word {R : Str → V} {ns : List Str} {l : Leaf} (h : l.ok ns) : leafAns R l ∈ words := by
  cases l with
  | always w => exact h
  | empty n => exact word_ite w_yes w_no
  | number n => exact numV_word _
  | asks n ss sg k => exact askV_word _ _ _ _
theorem allOf_word {dec : Str} : ∀ {rs : List Res} {found : Str}, (∀ r ∈ rs, r.1 ∈ words) → found ∈ words → (allOf dec found rs).1 ∈ words
  | [], _, _, h => h
  | r :: rs, found, h, h' => by
    have h1 := h r List.mem_cons_self
    have ih := allOf_word (dec := dec) (rs := rs) (found := if r.1 = "unknown" then r.1 else found) (fun z hz => h z (List.mem_cons_of_mem _ hz)) (word_ite h1 h')
    unfold allOf
    by_cases c : r.1 = "error" ∨ r.1 = dec
    · rw [if_pos c]; exact h1
    · rw [if_neg c]; exact ih
theorem firstOf_word : ∀ {rs : List Res}, (∀ r ∈ rs, r.1 ∈ words) → (firstOf rs).1 ∈ words
  | [], _ => w_unk
  | r :: rs, h => by
    have h1 := h r List.mem_cons_self
    have ih := firstOf_word (rs := rs) fun z hz => h z (List.mem_cons_of_mem _ hz)
    unfold firstOf
    by_cases c : r.1 = "unknown"
    · rw [if_pos c]; exact ih
    · rw [if_neg c]; exact h1
theorem caseOf_word : ∀ {rs ts : List Res} {e : Res}, (∀ r ∈ rs, r.1 ∈ words) → (∀ r ∈ ts, r.1 ∈ words) → e.1 ∈ words → (caseOf rs ts e).1 ∈ words
  | [], _, e, _, _, h => by unfold caseOf; exact h
  | _ :: _, [], e, _, _, h => by unfold caseOf; exact h
  | r :: rs, t :: ts, e, h, h', he => by
    have h1 := h r List.mem_cons_self
    have h2 := h' t List.mem_cons_self
    have ih := caseOf_word (rs := rs) (ts := ts) (e := e) (fun z hz => h z (List.mem_cons_of_mem _ hz)) (fun z hz => h' z (List.mem_cons_of_mem _ hz)) he
    unfold caseOf
    by_cases c : r.1 = "error"
    · rw [if_pos c]; exact h1
    · rw [if_neg c]
      by_cases y : r.1 = "yes"
      · rw [if_pos y]; exact h2
      · rw [if_neg y]; exact ih
mutual
theorem run_word {R : Str → V} {ns : List Str} : ∀ (c : Cnd) (a : List Int), c.ok ns → (run R a c).1 ∈ words
  | .leaf l, a, h => by simp only [run]; exact leaf_word h
  | .not c, a, h => by
    rw [Cnd.ok] at h
    simp only [run]
    exact word_exch (run_word c _ h)
  | .node k cs, a, h => by
    rw [Cnd.ok] at h
    simp only [run]
    have := runL_word (R := R) cs a 0 1 h.2
    unfold nodeOf
    split
    · exact firstOf_word this
    · split
      · exact allOf_word this w_yes
      · exact allOf_word this w_no
  | .case ws ts e, a, h => by
    rw [Cnd.ok] at h
    simp only [run]
    exact caseOf_word (runL_word ws a 0 2 h.2.1) (runL_word ts a 1 2 h.2.2.1) (run_word e _ h.2.2.2)
theorem runL_word {R : Str → V} {ns : List Str} : ∀ (cs : List Cnd) (a : List Int) (i st : Int), Cnd.okL ns cs → ∀ r ∈ runL R a i st cs, r.1 ∈ words
  | [], a, i, st, _, r, h => by simp [runL] at h
  | c :: cs, a, i, st, h, r, hr => by
    rw [Cnd.okL] at h
    rw [runL] at hr
    rcases List.mem_cons.mp hr with rfl | hr
    · exact run_word c _ h.1
    · exact runL_word cs a _ _ h.2 r hr
end
/-! ### how many are asked -/
def lenL (rs : List Res) : Nat := (rs.map fun r => r.2.length).sum
theorem allOf_len {dec : Str} : ∀ {rs : List Res} {found : Str}, (allOf dec found rs).2.length ≤ lenL rs
  | [], _ => Nat.le_refl _
  | r :: rs, found => by
    have ih := allOf_len (dec := dec) (rs := rs) (found := if r.1 = "unknown" then r.1 else found)
    unfold allOf
    unfold lenL at ih ⊢
    rw [List.map_cons, List.sum_cons]
    by_cases c : r.1 = "error" ∨ r.1 = dec
    · rw [if_pos c]; omega
    · rw [if_neg c, List.length_append]; omega
theorem firstOf_len : ∀ {rs : List Res}, (firstOf rs).2.length ≤ lenL rs
  | [] => Nat.le_refl _
  | r :: rs => by
    have ih := firstOf_len (rs := rs)
    unfold firstOf
    unfold lenL at ih ⊢
    rw [List.map_cons, List.sum_cons]
    by_cases c : r.1 = "unknown"
    · rw [if_pos c, List.length_append]; omega
    · rw [if_neg c]; omega
theorem caseOf_len : ∀ {rs ts : List Res} {e : Res}, (caseOf rs ts e).2.length ≤ lenL rs + lenL ts + e.2.length
  | [], ts, e => by unfold caseOf; omega
  | _ :: _, [], e => by unfold caseOf; omega
  | r :: rs, t :: ts, e => by
    have ih := caseOf_len (rs := rs) (ts := ts) (e := e)
    unfold caseOf
    unfold lenL at ih ⊢
    rw [List.map_cons, List.sum_cons, List.map_cons, List.sum_cons]
    by_cases c : r.1 = "error"
    · rw [if_pos c]; omega
    · rw [if_neg c]
      by_cases y : r.1 = "yes"
      · rw [if_pos y, List.length_append]; omega
      · rw [if_neg y, List.length_append]; omega
mutual
theorem run_len (R : Str → V) : ∀ (c : Cnd) (a : List Int), (run R a c).2.length ≤ c.weight
  | .leaf l, a => by simp only [run, Cnd.weight]; show 1 ≤ 200000; decide
  | .not c, a => by
    have := run_len R c (a ++ [0])
    simp only [run, Cnd.weight]
    omega
  | .node k cs, a => by
    have := runL_lenL R cs a 0 1
    simp only [run, Cnd.weight]
    unfold nodeOf
    split
    · have := firstOf_len (rs := runL R a 0 1 cs); omega
    · split
      · have := allOf_len (dec := "no") (rs := runL R a 0 1 cs) (found := "yes"); omega
      · have := allOf_len (dec := "yes") (rs := runL R a 0 1 cs) (found := "no"); omega
  | .case ws ts e, a => by
    have h1 := runL_lenL R ws a 0 2
    have h2 := runL_lenL R ts a 1 2
    have h3 := run_len R e (a ++ [2 * (ws.length : Int)])
    have := caseOf_len (rs := runL R a 0 2 ws) (ts := runL R a 1 2 ts) (e := run R (a ++ [2 * (ws.length : Int)]) e)
    simp only [run, Cnd.weight]
    omega
theorem runL_lenL (R : Str → V) : ∀ (cs : List Cnd) (a : List Int) (i st : Int), lenL (runL R a i st cs) ≤ Cnd.weightL cs
  | [], a, i, st => by simp only [runL, Cnd.weightL]; exact Nat.le_refl _
  | c :: cs, a, i, st => by
    have h1 := run_len R c (a ++ [i])
    have h2 := runL_lenL R cs a (i + st) st
    rw [runL, Cnd.weightL]
    unfold lenL at h2 ⊢
    rw [List.map_cons, List.sum_cons]
    omega
end
theorem weightL_snoc : ∀ (cs : List Cnd) (c : Cnd), Cnd.weightL (cs ++ [c]) = Cnd.weightL cs + c.weight + 20
  | [], c => by simp [Cnd.weightL]
  | a :: cs, c => by simp only [List.cons_append, Cnd.weightL, weightL_snoc cs c]; omega
theorem weightL_take : ∀ (cs : List Cnd) (i : Nat), Cnd.weightL (cs.take i) ≤ Cnd.weightL cs
  | [], i => by simp
  | c :: cs, 0 => by simp [Cnd.weightL]
  | c :: cs, i + 1 => by simp only [List.take_succ_cons, Cnd.weightL]; have := weightL_take cs i; omega
theorem weightL_step {cs : List Cnd} {i : Nat} {c : Cnd} (h : cs[i]? = some c) : Cnd.weightL (cs.take (i + 1)) = Cnd.weightL (cs.take i) + c.weight + 20 ∧
    Cnd.weightL (cs.take i) + c.weight + 20 ≤ Cnd.weightL cs := by
  have e : Cnd.weightL (cs.take (i + 1)) = Cnd.weightL (cs.take i) + c.weight + 20 := by rw [takeS h, weightL_snoc]
  exact ⟨e, by rw [← e]; exact weightL_take _ _⟩
/-- an address, one step longer -/
theorem cat_adr {K : PySem.W.Frag} {H : Hp} {ad t : Addr} {adr : List Int} {i : Int} {Q : VK} (h1 : SqT K H ad (adr.map V.int)) (h2 : SqT K H t [.int i])
    (sz : adr.length ≤ 100000) (k : ∀ p H', Ex H H' → SqT K H' p ((adr ++ [i]).map V.int) → Q (.ref p) H') : rCatA K (.ref ad) (.ref t) H Q := by
  refine ⟨ad, t, _, _, rfl, rfl, h1, h2, ?_, fun h => ?_, fun _ h => (by cases h), fun _ _ p np => ?_⟩
  · rw [List.length_map]
    exact Nat.le_trans (show adr.length + 1 ≤ 100001 by omega) (by decide)
  · have : adr = [] := List.map_eq_nil_iff.mp h
    subst this
    exact k t H (Ex.refl H) h2
  · refine k p _ (Ex.new np) ?_
    rw [List.map_append]
    exact SqT.of upd_same
theorem inV2 (x a b : Str) : inV (.str x) [.str a, .str b] = true ↔ x = a ∨ x = b := by
  have e : inV (.str x) [.str a, .str b] = (a == x || b == x) := by simp [inV, eqV]
  rw [e, Bool.or_eq_true, beq_iff_eq, beq_iff_eq]
  exact ⟨fun h => h.imp Eq.symm Eq.symm, fun h => h.imp Eq.symm Eq.symm⟩
end Gx

set_option Elab.async false
set_option linter.all false
set_option maxRecDepth 100000
set_option maxHeartbeats 4000000
/-! What a condition answers by a plan: orders, every part asked or not, unknown taken for no or not. -/
namespace Gx
open PySem PySem.Spec PyProof.Rows L2 Evl
structure Md where
  ev : Bool
  lo : Bool
  ord : List Int → Option (List Nat)
def Md0 : Md := ⟨false, false, fun _ => none⟩
def Md.order (M : Md) (adr : List Int) (n : Nat) : List Nat := (M.ord adr).getD (List.range n)
def low (M : Md) (pl : Bool) (r : Res) : Res := (if (M.lo && pl && decide (r.1 = "unknown")) = true then "no" else r.1, r.2)
def decOf (k : Str) : Str := if k = "all" then "no" else "yes"
def endOf (dec : Str) (f : List Str) : Str := if dec ∈ f then dec else if ("unknown" : Str) ∈ f then "unknown" else exch dec
def goNode (dec : Str) (ev : Bool) : List Str → List Res → Res
  | f, [] => (endOf dec f, [])
  | f, r :: rs => if r.1 = "error" ∨ (r.1 = dec ∧ ev = false) then r else ((goNode dec ev (f ++ [r.1]) rs).1, r.2 ++ (goNode dec ev (f ++ [r.1]) rs).2)
def pick (rs : List Res) (o : List Nat) : List Res := o.filterMap fun i => rs[i]?
def nodeG (M : Md) (k : Str) (rs rs' : List Res) (o : List Nat) : Res := if k = "first" then firstOf rs' else goNode (decOf k) M.ev [] (pick rs o)
mutual
def rung (M : Md) (R : Str → V) : List Int → Bool → Cnd → Res
  | adr, pl, .leaf l => low M pl (leafAns R l, [entry adr (leafAns R l)])
  | adr, pl, .not c => low M pl (exch (rung M R (adr ++ [0]) false c).1, (rung M R (adr ++ [0]) false c).2)
  | adr, pl, .node k cs => low M pl (nodeG M k (rungL M R adr 0 1 pl cs) (rungL M R adr 0 1 false cs) (M.order adr cs.length))
  | adr, pl, .case ws ts e => low M pl (caseOf (rungL M R adr 0 2 true ws) (rungL M R adr 1 2 pl ts) (rung M R (adr ++ [2 * (ws.length : Int)]) pl e))
def rungL (M : Md) (R : Str → V) : List Int → Int → Int → Bool → List Cnd → List Res
  | _, _, _, _, [] => []
  | adr, i, st, pl, c :: cs => rung M R (adr ++ [i]) pl c :: rungL M R adr (i + st) st pl cs
end
theorem low0 (pl : Bool) (r : Res) : low Md0 pl r = r := by
  unfold low Md0
  rfl
theorem pick_range (rs : List Res) : pick rs (List.range rs.length) = rs := by
  unfold pick
  induction rs with
  | nil => rfl
  | cons r rs ih =>
    rw [List.length_cons, List.range_succ_eq_map, List.filterMap_cons, List.getElem?_cons_zero, List.filterMap_map]
    show r :: List.filterMap (fun i => (r :: rs)[i + 1]?) (List.range rs.length) = r :: rs
    simp only [List.getElem?_cons_succ]
    rw [ih]
theorem goNode_all {dec : Str} (hd : dec ≠ "unknown") : ∀ (rs : List Res) (f : List Str), dec ∉ f →
    goNode dec false f rs = allOf dec (if ("unknown" : Str) ∈ f then "unknown" else exch dec) rs
  | [], f, h => by
    unfold goNode allOf endOf
    rw [if_neg h]
  | r :: rs, f, h => by
    unfold goNode allOf
    by_cases e : r.1 = "error" ∨ r.1 = dec
    · rw [if_pos (e.imp id fun z => ⟨z, rfl⟩), if_pos e]
    · have e' : ¬ (r.1 = "error" ∨ (r.1 = dec ∧ false = false)) := fun z => e (z.imp id fun q => q.1)
      have h' : dec ∉ f ++ [r.1] := by
        rw [List.mem_append, List.mem_singleton]
        exact fun z => z.elim h fun q => e (.inr q.symm)
      rw [if_neg e', if_neg e, goNode_all hd rs _ h']
      have : (if ("unknown" : Str) ∈ f ++ [r.1] then ("unknown" : Str) else exch dec) = (if r.1 = "unknown" then r.1 else if ("unknown" : Str) ∈ f then "unknown" else exch dec) := by
        by_cases u : r.1 = "unknown"
        · rw [if_pos u, if_pos (by rw [u]; simp), u]
        · rw [if_neg u]
          by_cases v : ("unknown" : Str) ∈ f
          · rw [if_pos v, if_pos (List.mem_append_left _ v)]
          · rw [if_neg v, if_neg]
            rw [List.mem_append, List.mem_singleton]
            exact fun z => z.elim v fun q => u q.symm
      rw [this]
theorem ex_no : exch "no" = "yes" := by decide +kernel
theorem ex_yes : exch "yes" = "no" := by decide +kernel
theorem no_unk : ("no" : Str) ≠ "unknown" := by decide +kernel
theorem yes_unk : ("yes" : Str) ≠ "unknown" := by decide +kernel
theorem yes_all : ¬ ("yes" : Str) = "all" := by decide +kernel
mutual
theorem rung_plain (R : Str → V) : ∀ (c : Cnd) (adr : List Int) (pl : Bool), rung Md0 R adr pl c = run R adr c
  | .leaf l, adr, pl => by rw [rung, run, low0]
  | .not c, adr, pl => by rw [rung, run, low0, rung_plain R c]
  | .node k cs, adr, pl => by
    rw [rung, run, low0, rungL_plain R cs, rungL_plain R cs]
    unfold nodeG nodeOf
    have e : Md0.order adr cs.length = List.range (runL R adr 0 1 cs).length := by rw [runL_len]; rfl
    rw [e, pick_range]
    by_cases h : k = "first"
    · rw [if_pos h, if_pos h]
    · rw [if_neg h, if_neg h]
      unfold decOf
      by_cases h2 : k = "all"
      · rw [if_pos h2, if_pos h2]
        show goNode "no" false [] _ = _
        rw [goNode_all no_unk _ _ List.not_mem_nil, if_neg List.not_mem_nil, ex_no]
      · rw [if_neg h2, if_neg h2]
        show goNode "yes" false [] _ = _
        rw [goNode_all yes_unk _ _ List.not_mem_nil, if_neg List.not_mem_nil, ex_yes]
  | .case ws ts e, adr, pl => by rw [rung, run, low0, rungL_plain R ws, rungL_plain R ts, rung_plain R e]
theorem rungL_plain (R : Str → V) : ∀ (cs : List Cnd) (adr : List Int) (i st : Int) (pl : Bool), rungL Md0 R adr i st pl cs = runL R adr i st cs
  | [], _, _, _, _ => by rw [rungL, runL]
  | c :: cs, adr, i, st, pl => by rw [rungL, runL, rung_plain R c, rungL_plain R cs]
end
theorem rungL_get (M : Md) (R : Str → V) : ∀ (cs : List Cnd) (adr : List Int) (i st : Int) (pl : Bool) (j : Nat) (c : Cnd), cs[j]? = some c →
    (rungL M R adr i st pl cs)[j]? = some (rung M R (adr ++ [i + j * st]) pl c)
  | [], _, _, _, _, _, _, h => by simp at h
  | a :: cs, adr, i, st, pl, 0, c, h => by
    simp at h; subst h
    simp [rungL]
  | a :: cs, adr, i, st, pl, j + 1, c, h => by
    rw [rungL, List.getElem?_cons_succ, rungL_get M R cs adr (i + st) st pl j c (by simpa using h)]
    rw [show i + st + (j : Int) * st = i + ((j + 1 : Nat) : Int) * st by rw [Int.natCast_add, Int.add_mul]; omega]
theorem rungL_len (M : Md) (R : Str → V) : ∀ (cs : List Cnd) (adr : List Int) (i st : Int) (pl : Bool), (rungL M R adr i st pl cs).length = cs.length
  | [], _, _, _, _ => by simp [rungL]
  | a :: cs, adr, i, st, pl => by simp [rungL, rungL_len M R cs]
/-- the orders of a plan are of parts that there are -/
def OrdAt (M : Md) (adr : List Int) (n : Nat) : Prop := ∀ o, M.ord adr = some o → (∀ i ∈ o, i < n) ∧ o.Nodup
mutual
def OrdOk (M : Md) : List Int → Cnd → Prop
  | _, .leaf _ => True
  | adr, .not c => OrdOk M (adr ++ [0]) c
  | adr, .node _ cs => OrdAt M adr cs.length ∧ OrdOkL M adr 0 1 cs
  | adr, .case ws ts e => OrdOkL M adr 0 2 ws ∧ OrdOkL M adr 1 2 ts ∧ OrdOk M (adr ++ [2 * (ws.length : Int)]) e
def OrdOkL (M : Md) : List Int → Int → Int → List Cnd → Prop
  | _, _, _, [] => True
  | adr, i, st, c :: cs => OrdOk M (adr ++ [i]) c ∧ OrdOkL M adr (i + st) st cs
end
theorem ordL_get {M : Md} : ∀ {cs : List Cnd} {adr : List Int} {i st : Int} {j : Nat} {c : Cnd}, OrdOkL M adr i st cs → cs[j]? = some c → OrdOk M (adr ++ [i + j * st]) c
  | [], _, _, _, _, _, _, h => by simp at h
  | a :: cs, adr, i, st, 0, c, ⟨h1, _⟩, h => by
    simp at h; subst h
    simpa using h1
  | a :: cs, adr, i, st, j + 1, c, ⟨_, h2⟩, h => by
    have := ordL_get h2 (j := j) (by simpa using h)
    rwa [show i + st + (j : Int) * st = i + ((j + 1 : Nat) : Int) * st by rw [Int.natCast_add, Int.add_mul]; omega] at this
mutual
theorem ord0 : ∀ (c : Cnd) (adr : List Int), OrdOk Md0 adr c
  | .leaf _, _ => by rw [OrdOk]; trivial
  | .not c, adr => by rw [OrdOk]; exact ord0 c _
  | .node _ cs, adr => by rw [OrdOk]; exact ⟨fun o h => (nomatch h), ordL0 cs _ _ _⟩
  | .case ws ts e, adr => by rw [OrdOk]; exact ⟨ordL0 ws _ _ _, ordL0 ts _ _ _, ord0 e _⟩
theorem ordL0 : ∀ (cs : List Cnd) (adr : List Int) (i st : Int), OrdOkL Md0 adr i st cs
  | [], _, _, _ => by rw [OrdOkL]; trivial
  | c :: cs, adr, i, st => by rw [OrdOkL]; exact ⟨ord0 c _, ordL0 cs _ _ _⟩
end
theorem goNode_step {dec : Str} {ev : Bool} {f : List Str} {r : Res} {rs : List Res} {i : Nat} (h : rs[i]? = some r) :
    goNode dec ev f (rs.drop i) = if r.1 = "error" ∨ (r.1 = dec ∧ ev = false) then r else
      ((goNode dec ev (f ++ [r.1]) (rs.drop (i + 1))).1, r.2 ++ (goNode dec ev (f ++ [r.1]) (rs.drop (i + 1))).2) := by
  have e : rs.drop i = r :: rs.drop (i + 1) := by
    obtain ⟨h1, h2⟩ := List.getElem?_eq_some_iff.mp h
    rw [← h2]; exact List.drop_eq_getElem_cons h1
  rw [e, goNode]
theorem pick_all : ∀ {o : List Nat} {rs : List Res}, (∀ i ∈ o, i < rs.length) → (pick rs o).length = o.length ∧ ∀ (j i : Nat), o[j]? = some i → (pick rs o)[j]? = rs[i]?
  | [], rs, _ => ⟨rfl, fun j i h => by simp at h⟩
  | a :: o, rs, h => by
    have ha : a < rs.length := h a List.mem_cons_self
    have e : rs[a]? = some rs[a] := List.getElem?_eq_getElem ha
    obtain ⟨l, g⟩ := pick_all (o := o) (rs := rs) fun i hi => h i (List.mem_cons_of_mem _ hi)
    have p : pick rs (a :: o) = rs[a] :: pick rs o := by
      unfold pick
      rw [List.filterMap_cons, e]
    rw [p]
    refine ⟨by rw [List.length_cons, List.length_cons, l], fun j i hj => ?_⟩
    cases j with
    | zero => simp at hj; subst hj; rw [e]; rfl
    | succ j => rw [List.getElem?_cons_succ]; exact g j i (by simpa using hj)
/-! ### words and lengths -/
theorem low_word {M : Md} {pl : Bool} {r : Res} (h : r.1 ∈ words) : (low M pl r).1 ∈ words := by
  unfold low
  exact word_ite w_no h
theorem goNode_word {dec : Str} {ev : Bool} (hd : dec ∈ words) : ∀ {rs : List Res} {f : List Str}, (∀ r ∈ rs, r.1 ∈ words) → (goNode dec ev f rs).1 ∈ words
  | [], f, _ => by
    unfold goNode endOf
    exact word_ite hd (word_ite w_unk (word_exch hd))
  | r :: rs, f, h => by
    unfold goNode
    split
    · exact h r List.mem_cons_self
    · exact goNode_word hd fun q hq => h q (List.mem_cons_of_mem _ hq)
theorem mem_pick {rs : List Res} {o : List Nat} {r : Res} (h : r ∈ pick rs o) : r ∈ rs := by
  unfold pick at h
  obtain ⟨i, _, e⟩ := List.mem_filterMap.mp h
  exact List.mem_of_getElem? e
theorem dec_word (k : Str) : decOf k ∈ words := word_ite w_no w_yes
mutual
theorem rung_word {M : Md} {R : Str → V} {ns : List Str} : ∀ (c : Cnd) (a : List Int) (pl : Bool), c.ok ns → (rung M R a pl c).1 ∈ words
  | .leaf l, a, pl, h => by
    rw [rung]
    exact low_word (leaf_word (by rw [Cnd.ok] at h; exact h))
  | .not c, a, pl, h => by
    rw [rung]
    exact low_word (word_exch (rung_word c _ _ (by rw [Cnd.ok] at h; exact h)))
  | .node k cs, a, pl, h => by
    rw [Cnd.ok] at h
    rw [rung]
    refine low_word ?_
    unfold nodeG
    split
    · exact firstOf_word (rungL_word cs _ _ _ _ h.2)
    · exact goNode_word (dec_word k) fun r hr => rungL_word cs _ _ _ _ h.2 r (mem_pick hr)
  | .case ws ts e, a, pl, h => by
    rw [Cnd.ok] at h
    rw [rung]
    exact low_word (caseOf_word (rungL_word ws _ _ _ _ h.2.1) (rungL_word ts _ _ _ _ h.2.2.1) (rung_word e _ _ h.2.2.2))
theorem rungL_word {M : Md} {R : Str → V} {ns : List Str} : ∀ (cs : List Cnd) (a : List Int) (i st : Int) (pl : Bool), Cnd.okL ns cs → ∀ r ∈ rungL M R a i st pl cs, r.1 ∈ words
  | [], _, _, _, _, _, r, hr => by rw [rungL] at hr; cases hr
  | c :: cs, a, i, st, pl, h, r, hr => by
    rw [Cnd.okL] at h
    rw [rungL] at hr
    rcases List.mem_cons.mp hr with rfl | hr
    · exact rung_word c _ _ h.1
    · exact rungL_word cs _ _ _ _ h.2 r hr
end
/-- an address, one step longer: a tuple of its own -/
theorem cat_tup {K : PySem.W.Frag} {H : Hp} {ad t : Addr} {adr : List Int} {i : Int} {Q : VK} (h1 : H ad = some (.tup (adr.map V.int))) (h2 : H t = some (.tup [.int i]))
    (sz : adr.length ≤ 100000) (k : ∀ p H', Ex H H' → H' p = some (.tup ((adr ++ [i]).map V.int)) → Q (.ref p) H') : rCatA K (.ref ad) (.ref t) H Q := by
  refine ⟨ad, t, _, _, rfl, rfl, SqT.of h1, SqT.of h2, ?_, fun h => ?_, fun _ h => (by cases h), fun _ _ p np => ?_⟩
  · rw [List.length_map]
    exact Nat.le_trans (show adr.length + 1 ≤ 100001 by omega) (by decide)
  · have : adr = [] := List.map_eq_nil_iff.mp h
    subst this
    exact k t H (Ex.refl H) h2
  · refine k p _ (Ex.new np) ?_
    rw [List.map_append]
    exact upd_same
end Gx

set_option Elab.async false
set_option linter.all false
set_option maxRecDepth 100000
set_option maxHeartbeats 400000
/-! `==` and `!=` of an instance whose class has an own `__eq__` and no own `__ne__`. -/
namespace Gx
open PySem PySem.Spec PyProof.Rows L2 Evl
/-- `a == y`, a's class with an own `__eq__` -/
def rEqI (K : PySem.W.Frag) (C : Addr) (sp : Sp) (E : XK) : R2 := fun x y H Q => ∃ (a dx : Addr) (fs : List (Str × V)) (tb : Value), x = .ref a ∧ H a = some (.ins C dx fs) ∧ TyX K H y tb ∧ PySem.W.notFirst K C tb = true ∧ sp [x, y] H Q E
theorem op_eqI {X : Cx} {CX : CXT} {C g : Addr} {n : Nat} {sp : Sp} {E : XK} (hs : PySem.W.findIn X.K (.ref C) "__eq__" = some (some (.ref g))) (hf : PySem.W.isFn X.K (.ref g) = true)
    (F : FnR X.prog X.w X.K X.mg X.base CX n g sp) (hr : Room n X.A) (hx : Passes CX X E) : OpR X (compareOp .Eq) (rEqI X.K C sp E) := by
  rintro pins s σ H x y v u Q inv rx ry ⟨a, dx, fs, tb, rfl, ha, ty, nf, h⟩
  cases rx
  obtain ⟨mA, om, _⟩ := L2.ins_get inv.hok ha
  obtain ⟨od, I, _⟩ := om.look
  obtain ⟨P, kx, hP, _⟩ := L2.kit_of inv ry ty
  obtain ⟨m, fr⟩ := inv.fr
  have e : compareOp .Eq (.ref a) u = richCompare .Eq (.ref a) u := rfl
  rw [e]
  have back : wpAny (model X.prog X.w) X.A (call (.ref g) [.ref a, u]) (PySem.W.CmpBack (EP X pins σ Q)) X.xe s := by
    refine wpAny_mono (wpAny_call (L2.run_fnR F hr hx inv (.cons (show RelV (.ref a) (.ref a) from rfl) (.cons ry .nil)) h)) (fun v s' q => ?_) (fun _ _ q => q)
    obtain ⟨z, H', i, r, q⟩ := q
    exact SlX.cmpback r ⟨z, H', i, r, q⟩
  exact PySem.W.cmp_K (op := .Eq) hr.units0 fr inv.ok.mod.kin I (kx.ty _ _ inv.kIn hP) nf hs hf back
/-- the default `__ne__` is found -/
theorem ifBound_ne {M : Model} {A : Around} {E : Value → Shared → Prop} {s : Shared} {K : PySem.W.Frag} {x C : Addr} {ox : Obj} {od : Option Obj} {args : List Value} {Q : Option Value → Shared → Prop}
    (kin : K.In s.heap) (I : PySem.W.InstAt s.heap x ox C od) (hs : PySem.W.findIn K (.ref C) "__ne__" = some (some (.builtin "object.__ne__")))
    (h : wpAny M A (call (.builtin "object.__ne__") (.ref x :: args)) (fun v => Q (some v)) E s) : wpAny M A (callSpecialIfBound? (.ref x) "__ne__" args) Q E s := by
  unfold callSpecialIfBound? bindSpecialIfBound? specialOf
  refine wpAny_holding (wpAny_bind (wpAny_bind (wpAny_bind (PySem.W.Looks.here I.type (PySem.W.Looks.here (PySem.W.looks_findIn kin hs) ?_)))))
  refine wpAny_bind (wpAny_askSetting ?_)
  have e : bindSpecial (.builtin "object.__ne__") (.ref x) = pure (Value.builtin "object.__ne__", [Value.ref x]) := F.cmp_object.ne.bind _
  have fin : wpAny M A (call (.builtin "object.__ne__") ([Value.ref x] ++ args)) (fun v => Q (some v)) E s := h
  refine wpAny_ite ?_
  split
  · refine wpAny_bind (wpAny_of_eq e (wpAny_pure (wpAny_bind (wpAny_mono fin (fun v s' q => wpAny_pure q) fun _ _ q => q))))
  · refine wpAny_tryCatch (wpAny_bind (wpAny_of_eq e (wpAny_pure (wpAny_bind (wpAny_mono fin (fun v s' q => wpAny_pure q) fun _ _ q => q)))))
def rNeI (K : PySem.W.Frag) (C : Addr) (sp : Sp) (E : XK) : R2 := fun x y H Q => ∃ (a dx : Addr) (fs : List (Str × V)) (tb : Value), x = .ref a ∧ H a = some (.ins C dx fs) ∧ TyX K H y tb ∧ PySem.W.notFirst K C tb = true ∧ sp [x, y] H (fun z H' => ∃ b, z = .bl b ∧ Q (.bl (!b)) H') E
theorem call_objNe {prog : Program} {w : World} {A : Around} {E : Value → Shared → Prop} {s : Shared} {K : PySem.W.Frag} {x C g : Addr} {ox : Obj} {od : Option Obj} {u : Value} {Q : Value → Shared → Prop}
    (kin : K.In s.heap) (I : PySem.W.InstAt s.heap x ox C od) (ho : PySem.W.mroIn K C (.type "object") = some true) (hu : A.in1.units < cLine)
    (hs : PySem.W.findIn K (.ref C) "__eq__" = some (some (.ref g))) (hf : PySem.W.isFn K (.ref g) = true)
    (h : wpAny (model prog w) A.in1 (call (.ref g) [.ref x, u]) (fun v s' => ∃ b, v = .bool b ∧ Q (.bool !b) s') E s) :
    wpAny (model prog w) A (call (.builtin "object.__ne__") [.ref x, u]) Q E s := by
  refine wpAny_call (codeAny_call_builtin F.cmp_object.ne.plain F.cmpEntry_ne ?_)
  refine PySem.W.check_slot F.cmpKind_ne F.cmpSplit_ne (PySem.W.Looks.andThen I.type ?_) (F.cmpArgs_ne _ _) ?_
  · exact PySem.W.looks_mroIn kin ho
  · unfold Builtin.«object.__ne__» slotArgs
    refine wpAny_bind (wpAny_of_eq (a := (Value.ref x, [u])) rfl ?_)
    refine wpAny_bind (wpAny_cRoomFor hu ?_)
    refine wpAny_bind (PySem.W.ifBound_K kin I hs hf (wpAny_mono h (fun v s' q => ?_) fun _ _ q => q))
    obtain ⟨b, rfl, q⟩ := q
    refine wpAny_bind (wpAny_of_eq (a := b) rfl ?_)
    exact wpAny_pure q
theorem op_neI {X : Cx} {CX : CXT} {C g : Addr} {n : Nat} {sp : Sp} {E : XK} (hs : PySem.W.findIn X.K (.ref C) "__eq__" = some (some (.ref g))) (hf : PySem.W.isFn X.K (.ref g) = true)
    (hn : PySem.W.findIn X.K (.ref C) "__ne__" = some (some (.builtin "object.__ne__"))) (ho : PySem.W.mroIn X.K C (.type "object") = some true)
    (F : FnR X.prog X.w X.K X.mg X.base CX n g sp) (hr : Room (n + 1) X.A) (hx : Passes CX X E) : OpR X (compareOp .NotEq) (rNeI X.K C sp E) := by
  rintro pins s σ H x y v u Q inv rx ry ⟨a, dx, fs, tb, rfl, ha, ty, nf, h⟩
  cases rx
  obtain ⟨mA, om, _⟩ := L2.ins_get inv.hok ha
  obtain ⟨od, I, _⟩ := om.look
  obtain ⟨P, kx, hP, _⟩ := L2.kit_of inv ry ty
  have hr1 : Room n X.A.in1 := hr.in1
  have e : compareOp .NotEq (.ref a) u = richCompare .NotEq (.ref a) u := rfl
  rw [e]
  have call : wpAny (model X.prog X.w) X.A (call (.builtin "object.__ne__") [.ref a, u]) (EP X pins σ Q) X.xe s := by
    refine call_objNe inv.kIn I ho hr1.units0 hs hf ?_
    refine wpAny_mono (wpAny_call (SlX.run_at F hr1 inv.env0.in1 hx inv (.cons (show RelV (.ref a) (.ref a) from rfl) (.cons ry .nil)) h)) (fun v s' q => ?_) (fun _ _ q => q)
    obtain ⟨z, H', i, r, b, rfl, q⟩ := q
    cases r
    exact ⟨b, rfl, .bl (!b), H', i, (show RelV (.bl (!b)) (.bool (!b)) from rfl), q⟩
  unfold richCompare
  refine wpAny_holding (wpAny_bind (wpAny_cRoomFor hr.units0 ?_))
  have o : oneThing? .NotEq (.ref a) u = none := by cases u <;> rfl
  rw [o]
  have tryc : wpAny (model X.prog X.w) X.A (tryCompare (.ref a) "__ne__" u) (fun r s' => ∃ v, r = some v ∧ EP X pins σ Q v s') X.xe s := by
    unfold tryCompare
    refine wpAny_bind (ifBound_ne inv.kIn I hn (wpAny_mono call (fun v s' q => ?_) fun _ _ q => q))
    obtain ⟨z, H', i, r, q⟩ := q
    have q' : EP X pins σ Q v s' := ⟨z, H', i, r, q⟩
    have nn : v ≠ .notImplemented := fun h => by subst h; exact SlX.cmpback (P := fun _ _ => True) (s' := s') r trivial
    cases v <;> first | exact absurd rfl nn | exact wpAny_pure ⟨_, rfl, q'⟩
  refine wpAny_bind (PySem.W.Looks.here I.type (wpAny_bind (PySem.W.Looks.here (kx.ty _ _ inv.kIn hP) ?_)))
  refine wpAny_ite ?_
  by_cases hc : tb = .ref C
  · subst hc
    rw [if_neg (by simp)]
    refine wpAny_bind (wpAny_pure (wpAny_ite_false (by decide) ?_))
    exact wpAny_bind (wpAny_mono tryc (fun r s' q => by obtain ⟨v, rfl, q⟩ := q; exact wpAny_pure q) fun _ _ q => q)
  · have sub : PySem.W.subIn X.K tb (.ref C) = some false := by
      have := nf
      unfold PySem.W.notFirst at this
      rcases Bool.or_eq_true _ _ |>.mp this with h1 | h1
      · exact absurd (eq_of_beq h1) hc
      · exact eq_of_beq h1
    rw [if_pos (by simpa using fun h => hc h.symm)]
    refine wpAny_bind (PySem.W.Looks.here (PySem.W.looks_subIn inv.kIn sub) (wpAny_ite_false (by decide) ?_))
    exact wpAny_bind (wpAny_mono tryc (fun r s' q => by obtain ⟨v, rfl, q⟩ := q; exact wpAny_pure q) fun _ _ q => q)
end Gx

set_option Elab.async false
set_option linter.all false
set_option maxRecDepth 100000
set_option maxHeartbeats 400000
/-! `a op b` of two instances of one own class, `~a`, `len(a)`, `x in a`, `x not in a`. -/
namespace Gx
open PySem PySem.Spec PyProof.Rows L2 Evl
section
variable {X : Cx} {CX : CXT} {C g : Addr} {n : Nat} {sp : Sp} {E : XK}
def rBinI (C : Addr) (sp : Sp) (E : XK) : R2 := fun x y H Q => ∃ (a b dx dy : Addr) (fs gs : List (Str × V)), x = .ref a ∧ y = .ref b ∧ H a = some (.ins C dx fs) ∧ H b = some (.ins C dy gs) ∧ sp [x, y] H Q E
theorem op_binI {op : Operator} (sf : PySem.W.selfFirst X.K C = true) (hs : PySem.W.findIn X.K (.ref C) (PySem.dunder op.info.2) = some (some (.ref g))) (hf : PySem.W.isFn X.K (.ref g) = true)
    (F : FnR X.prog X.w X.K X.mg X.base CX n g sp) (hr : Room n X.A) (hx : Passes CX X E) : OpR X (binaryOp op) (rBinI C sp E) := by
  rintro pins s σ H x y v u Q inv rx ry ⟨a, b, dx, dy, fs, gs, rfl, rfl, ha, hb, h⟩
  cases rx
  cases ry
  obtain ⟨mA, oa, _⟩ := L2.ins_get inv.hok ha
  obtain ⟨od, I, _⟩ := oa.look
  obtain ⟨mB, ob, _⟩ := L2.ins_get inv.hok hb
  obtain ⟨od', J, _⟩ := ob.look
  obtain ⟨m, fr⟩ := inv.fr
  refine PySem.W.binop_K fr inv.ok.mod.kin I J.type sf hs hf ?_
  refine wpAny_mono (wpAny_call (L2.run_fnR F hr hx inv (.cons (show RelV (.ref a) (.ref a) from rfl) (.cons (show RelV (.ref b) (.ref b) from rfl) .nil)) h)) (fun v s' q => ?_) (fun _ _ q => q)
  obtain ⟨z, H', i, r, q⟩ := q
  exact SlX.cmpback r ⟨z, H', i, r, q⟩
def rInvI (C : Addr) (sp : Sp) (E : XK) : V → Hp → VK → Prop := fun x H Q => ∃ (a dx : Addr) (fs : List (Str × V)), x = .ref a ∧ H a = some (.ins C dx fs) ∧ sp [x] H Q E
theorem un_invI (hs : PySem.W.findIn X.K (.ref C) "__invert__" = some (some (.ref g))) (hf : PySem.W.isFn X.K (.ref g) = true)
    (F : FnR X.prog X.w X.K X.mg X.base CX n g sp) (hr : Room n X.A) (hx : Passes CX X E) : UnR X (unaryOp .Invert) (rInvI C sp E) := by
  rintro pins s σ H x v Q inv rx ⟨a, dx, fs, rfl, ha, h⟩
  cases rx
  obtain ⟨mA, oa, _⟩ := L2.ins_get inv.hok ha
  obtain ⟨od, I, _⟩ := oa.look
  obtain ⟨m, fr⟩ := inv.fr
  refine PySem.W.ksp_inv fr inv.ok.mod.kin I hs hf ?_
  exact wpAny_call (L2.run_fnR F hr hx inv (.cons (show RelV (.ref a) (.ref a) from rfl) .nil) h)
def rLenI (C : Addr) (sp : Sp) (E : XK) : List V → Hp → VK → Prop := fun xs H Q => ∃ (a dx : Addr) (fs : List (Str × V)), xs = [.ref a] ∧ H a = some (.ins C dx fs) ∧
  sp xs H (fun z H' => ∃ k : Nat, z = .int k ∧ k ≤ sizeLine ∧ Q (.int k) H') E
theorem call_lenI (hs : PySem.W.findIn X.K (.ref C) "__len__" = some (some (.ref g))) (hf : PySem.W.isFn X.K (.ref g) = true)
    (F : FnR X.prog X.w X.K X.mg X.base CX n g sp) (hr : Room (n + 1) X.A) (hx : Passes CX X E) : CallR X (.builtin "len") (rLenI C sp E) := by
  rintro pins s σ H xs us Q inv rv ⟨a, dx, fs, rfl, ha, h⟩
  obtain ⟨u, rfl, rx⟩ := vals1 rv
  cases rx
  obtain ⟨mA, oa, _⟩ := L2.ins_get inv.hok ha
  obtain ⟨od, I, _⟩ := oa.look
  obtain ⟨m, fr⟩ := inv.fr
  have hr1 : Room n X.A.in1 := hr.in1
  refine PySem.W.len_K fr inv.ok.mod.kin I hs hf ?_
  refine wpAny_mono (wpAny_call (SlX.run_at F hr1 inv.env0.in1 hx inv (.cons (show RelV (.ref a) (.ref a) from rfl) .nil) h)) (fun v s' q => ?_) (fun _ _ q => q)
  obtain ⟨z, H', i, r, k, rfl, hk, q⟩ := q
  obtain ⟨t, rfl⟩ := r
  have := line63
  refine ⟨⟨by omega, by omega⟩, ?_⟩
  exact ⟨.int k, H', i.tok _, ⟨_, rfl⟩, q⟩
def rInI (C : Addr) (sp : Sp) (E : XK) (neg : Bool) : R2 := fun x y H Q => ∃ (a dx : Addr) (fs : List (Str × V)), y = .ref a ∧ H a = some (.ins C dx fs) ∧
  sp [y, x] H (fun z H' => ∃ b, z = .bl b ∧ Q (.bl (if neg then !b else b)) H') E
theorem op_inI (hs : PySem.W.findIn X.K (.ref C) "__contains__" = some (some (.ref g))) (hf : PySem.W.isFn X.K (.ref g) = true)
    (F : FnR X.prog X.w X.K X.mg X.base CX n g sp) (hr : Room n X.A) (hx : Passes CX X E) : OpR X (compareOp .In) (rInI C sp E false) := by
  rintro pins s σ H x y v u Q inv rx ry ⟨a, dx, fs, rfl, ha, h⟩
  cases ry
  obtain ⟨mA, oa, _⟩ := L2.ins_get inv.hok ha
  obtain ⟨od, I, _⟩ := oa.look
  obtain ⟨m, fr⟩ := inv.fr
  refine PySem.W.in_K fr inv.ok.mod.kin I hs hf ?_
  refine wpAny_mono (wpAny_call (L2.run_fnR F hr hx inv (.cons (show RelV (.ref a) (.ref a) from rfl) (.cons rx .nil)) h)) (fun v s' q => ?_) (fun _ _ q => q)
  obtain ⟨z, H', i, r, b, rfl, q⟩ := q
  cases r
  exact wpAny_pure ⟨.bl b, H', i, rfl, q⟩
theorem op_notInI (hs : PySem.W.findIn X.K (.ref C) "__contains__" = some (some (.ref g))) (hf : PySem.W.isFn X.K (.ref g) = true)
    (F : FnR X.prog X.w X.K X.mg X.base CX n g sp) (hr : Room n X.A) (hx : Passes CX X E) : OpR X (compareOp .NotIn) (rInI C sp E true) := by
  rintro pins s σ H x y v u Q inv rx ry ⟨a, dx, fs, rfl, ha, h⟩
  cases ry
  obtain ⟨mA, oa, _⟩ := L2.ins_get inv.hok ha
  obtain ⟨od, I, _⟩ := oa.look
  obtain ⟨m, fr⟩ := inv.fr
  refine PySem.W.notIn_K fr inv.ok.mod.kin I hs hf ?_
  refine wpAny_mono (wpAny_call (L2.run_fnR F hr hx inv (.cons (show RelV (.ref a) (.ref a) from rfl) (.cons rx .nil)) h)) (fun v s' q => ?_) (fun _ _ q => q)
  obtain ⟨z, H', i, r, b, rfl, q⟩ := q
  cases r
  exact wpAny_pure ⟨.bl (!b), H', i, rfl, q⟩
theorem op_eqIK {P : Program} {w : World} {K : PySem.W.Frag} {mg : Str → Option Value} {base : Heap} (e1 : X.prog = P) (e2 : X.w = w) (e3 : X.K = K) (e4 : X.mg = mg) (e5 : X.base = base)
    (hs : PySem.W.findIn K (.ref C) "__eq__" = some (some (.ref g))) (hf : PySem.W.isFn K (.ref g) = true) (F : FnR P w K mg base CX n g sp) (hr : Room n X.A) (hx : Passes CX X E) : OpR X (compareOp .Eq) (rEqI K C sp E) := by
  subst e1 e2 e3 e4 e5
  exact op_eqI hs hf F hr hx
end
end Gx

set_option Elab.async false
set_option linter.all false
set_option maxRecDepth 100000
set_option maxHeartbeats 400000
/-! sorted(xs, key=f), f a def that answers its argument's first item. -/
namespace Gx
open PySem PySem.Spec PyProof.Rows L2 Evl
section
variable {P : Program} {w : World} {K : PySem.W.Frag}
theorem bindL_one {k : Str → Option NameKind} {nm : Str} {v : Value} (h : k nm = some .local) : bindL k [(nm, v)] (fun _ => none) nm = some v := by
  unfold bindL bindL
  rw [if_pos h]
  exact if_pos rfl
theorem low_call {x qual nm : Str} {st : Stmt} {f : Addr} {fd : FuncData} {p1 p2 p3 p4 : Pos} {c : Nat} (F : Fun K x qual st f fd) (S : FnScope [nm] [nm] (defScope st)) (bd : L2.Binds K fd [nm] [])
    (hb : defBody st = [.Return (some (.Subscript (.Name nm p1) (.Constant (.int 0) c p2) p3)) p4]) (hn : (defScope st).names.lookup nm = some .local) (hdb : (nm == ("__debug__" : Str)) = false)
    {A : Around} {E : Value → Shared → Prop} {s : Shared} {a : Addr} {its : Array Value} {v : Value} {d : PyData}
    (hk : K.In s.heap) (hl : s.heap.NoLimit) (hr : Room 1 A) (ht : IsTup s.heap a its) (h0 : its.toList[0]? = some v) (hv : Reads s.heap v d []) (hz : its.size ≤ sizeLine) :
    wpAny (model P w) A (call (.ref f) [.ref a]) (PySem.W.KeyPure d s) E s := by
  obtain ⟨oc, od, kV, doc, pm, an, cdv, ct, osl, rfl, lk, hcd⟩ := F.ex
  refine wpAny_call ?_
  refine codeAny_call_function hr.depth (hk _ _ lk) rfl S.co S.gen rfl (PySem.W.codeRec_of hk hcd) ?_
  have b := bd s [.ref a] hk rfl
  rw [List.append_nil] at b
  refine b _ _ _ _ ?_
  refine wpAny_newFunctionEnv_cells S.kind (fun y hy => ?_) fun en hen s1 ic => ?_
  · have : y = (nm, .ref a) := by simpa using hy
    subst this
    exact .inl hn
  · subst hen
    obtain ⟨h', tk, e1, kp⟩ := ic.done
    refine ⟨hl.keeps ic.toInCall.keep, codeAny_func ?_⟩
    show wpAny _ _ (execs (defBody st) _) _ _ _
    rw [hb]
    refine wpAny_execs_cons (wpAny_Return_some ?_)
    refine Subscript_Constant ?_
    have ns := ic.toInCall.ns
    refine wpAny_Name ?_ hdb
    subst e1
    dsimp only at ns
    refine wpAny_loadName_local (v := .ref a) S.kind hn ns ?_ ?_
    · exact bindL_one (k := Env.kindOf _) hn
    · refine wpAny_Constant_int ⟨"tuple", "tuple.__getitem__", slot_tuple_getitem.lookup, ?_, ?_⟩
      · obtain ⟨o, e, hc, _⟩ := ht
        exact ⟨o, kp _ _ e, hc⟩
      · have ht' : IsTup h' a its := by
          obtain ⟨o, e, hc, z⟩ := ht
          exact ⟨o, kp _ _ e, hc, z⟩
        have hs : 0 < its.toList.length := by
          cases q : its.toList with
          | nil => rw [q] at h0; cases h0
          | cons _ _ => simp
        rw [Array.length_toList] at hs
        have hn63 := line63
        refine getItem_tuple (j := 0) ht' (by omega) (by omega) (by show (if (decide (0 ≤ (0 : Int)) && decide ((0 : Int) < (its.size : Int))) = true then some (Int.toNat 0) else none) = some 0; rw [if_pos (by simp; omega)]; rfl) (by simpa using h0) ?_
        exact ⟨h', _, rfl, kp, PyProof.Rows.Reads.keeps kp hv⟩
/-- sorted(xs, key=f): the items' first items are ints -/
def rSortedLow (K : PySem.W.Frag) (f : Addr) : List V → List V → Hp → VK → Prop := fun vs zs H Q => ∃ (a : Addr) (ps : List (V × Int)), vs = [.ref a] ∧ zs = [.ref f] ∧ SqL K H a (ps.map (·.1)) ∧
  (∀ p ∈ ps, ∃ (t : Addr) (xs : List V), p.1 = .ref t ∧ SqT K H t (.int p.2 :: xs)) ∧
  ∀ p, H p = none → Q (.ref p) (upd H p (.lst ((ps.mergeSort fun x y => decide (x.2 ≤ y.2)).map (·.1))))
theorem each_vals {β : Type} (g : β → V) : ∀ {bs : List β} {us : List Value}, Vals (bs.map g) us → PySem.W.EachIs (fun u b => RelV (g b) u) us bs
  | [], _, h => by cases h; exact .nil
  | b :: bs, _, h => by
    cases h with
    | cons h1 h2 => exact .cons h1 (each_vals g h2)
theorem vals_each {β : Type} (g : β → V) : ∀ {bs : List β} {us : List Value}, PySem.W.EachIs (fun u b => RelV (g b) u) us bs → Vals (bs.map g) us
  | [], _, h => by cases h; exact .nil
  | b :: bs, _, h => by
    cases h with
    | cons h1 h2 => exact .cons h1 (vals_each g h2)
theorem cr_sortedLow {X : Cx} {x qual nm : Str} {st : Stmt} {f : Addr} {fd : FuncData} {p1 p2 p3 p4 : Pos} {c : Nat} (F : Fun X.K x qual st f fd) (S : FnScope [nm] [nm] (defScope st)) (bd : L2.Binds X.K fd [nm] [])
    (hb : defBody st = [.Return (some (.Subscript (.Name nm p1) (.Constant (.int 0) c p2) p3)) p4]) (hn : (defScope st).names.lookup nm = some .local) (hdb : (nm == ("__debug__" : Str)) = false)
    (hr : Room 3 X.A) : CallRK X (.builtin "sorted") [Str.ofString "key"] (rSortedLow X.K f) := by
  intro pins s σ H vs zs us ws Q I r rz h
  obtain ⟨a, ps, rfl, rfl, hs, ht, q⟩ := h
  obtain rfl := Vals.ref1 r
  obtain ⟨w1, rfl, e1⟩ := vals1 rz
  obtain rfl : w1 = Value.ref f := e1
  obtain ⟨its, rv, hl, hz⟩ := I.list hs
  have hz' : ps.length ≤ sizeLine := by simpa using hz
  have hu := hr.units
  refine PySem.W.sorted_key_data (β := V × Int) (R := fun u b => RelV b.1 u) (b := false) (fun b => .int b.2) hl.isList (each_vals _ rv) ?_ ?_ hz' ?_ (PyProof.Rows.ksk_s1 _ _) (fun _ => PyProof.Rows.ksk_l1 _ _) (fun _ => rfl) ?_ ?_
  · exact PySem.W.AllAlike.of fun _ _ => rfl
  · exact PySem.W.Sortable.others fun _ => ⟨(fun e => by cases e), fun _ e => (by cases e)⟩
  · intro x _
    have : (PyData.int x.2).depth = 0 := rfl
    omega
  · intro v x hR hx h tk kp
    obtain ⟨t, xs, e, hq⟩ := ht x hx
    rw [e] at hR
    obtain rfl : v = Value.ref t := hR
    obtain ⟨jts, rj, hj, hjz⟩ := I.tuple hq
    obtain ⟨u, us, rfl, ru, _⟩ : ∃ u us, jts = u :: us ∧ RelV (.int x.2) u ∧ Vals xs us := by
      cases rj with
      | cons h1 h2 => exact ⟨_, _, rfl, h1, h2⟩
    obtain ⟨tt, rfl⟩ := ru
    have hr2 : Room 1 X.A.in1.in1 := (show Room 2 X.A.in1 from hr.in1).in1
    refine low_call (s := { s with heap := h, toks := tk }) F S bd hb hn hdb (I.kIn.keeps kp) (I.nolimit.keeps kp) hr2 ?_ (its := (Value.int x.2 tt :: us).toArray) rfl (.int _ _) ?_
    · obtain ⟨o, e, hc, z⟩ := hj
      exact ⟨o, kp _ _ e, hc, z⟩
    · have := rj.length
      simp only [List.size_toArray]
      omega
  · intro out c h' tk kp fr he hlen hE
    have hv := vals_each (fun b : V × Int => b.1) hE
    have e : PySem.W.dataLe false (fun b : V × Int => PyData.int b.2) = fun x y => decide (x.2 ≤ y.2) := PySem.W.dataLe_int (fun b : V × Int => b.2)
    rw [e] at hv
    have hL : ((ps.mergeSort fun x y => decide (x.2 ≤ y.2)).map (·.1)).length ≤ sizeLine := by simpa using hz'
    exact ⟨.ref _, upd H (s.heap.objs.size + 1) (.lst ((ps.mergeSort fun x y => decide (x.2 ≤ y.2)).map (·.1))), I.laid (t' := tk) kp (Nat.le_succ _) ⟨hL, out, c, hv, he⟩, rfl, q _ (I.hok.fresh (Nat.le_succ _))⟩
end
end Gx

set_option Elab.async false
set_option linter.all false
set_option maxRecDepth 100000
set_option maxHeartbeats 400000
/-! isinstance of a caught error that has a field. -/
namespace Gx
open PySem PySem.Spec PyProof.Rows L2 Evl
theorem kind_ga : builtinKind "BaseException.__getattribute__" = some Manifest.AttrKind.slot := by decide +kernel
theorem split_ga : splitId "BaseException.__getattribute__" = some ("BaseException", "__getattribute__") := by decide +kernel
theorem class_of {prog : Program} {w : World} {A : Around} {E : Value → Shared → Prop} {s : Shared} {K : PySem.W.Frag} {x D : Addr} {ox od : Obj} {Q : Option Value → Shared → Prop}
    (c : ExcC K D) (kin : K.In s.heap) (I : PySem.W.InstAt s.heap x ox D (some od))
    (h : Q (some (.ref D)) { heap := s.heap, gens := s.gens, drawn := s.drawn, toks := s.toks + 1, os := s.os }) :
    wpAny (model prog w) A (getAttr? (.ref x) "__class__") Q E s := by
  have fo : PySem.W.findObj K D (some od) "__class__" = some (.bind (.builtin "getset_descriptor.__get__") (.builtin "object.__class__")) := by
    refine PySem.W.findObj_data ?_ c.ha c.hn c.ht
    obtain ⟨a, h1, _⟩ := PySem.W.any_some c.hd
    rw [h1]; rfl
  unfold getAttr? getAttrBy? getAttrBy
  refine wpAny_bind (wpAny_mkText ?_)
  refine wpAny_bind (wpAny_attempt (wpAny_holding (wpAny_bind (PySem.W.Looks.at I.type (wpAny_bind (PySem.W.Looks.at (PySem.W.looks_findIn kin c.hg) ?_))))))
  show wpAny _ _ (if _ then _ else _) _ _ _
  refine wpAny_ite_false (show decide ((true && (Value.builtin "BaseException.__getattribute__" == Value.builtin "object.__getattribute__")) = true) = false from by decide) ?_
  unfold getAttrByItsOwn hookBefore
  refine wpAny_bind (wpAny_ite ?_)
  rw [if_pos (show onTheHeap (.ref D) = true from rfl)]
  refine PySem.W.Looks.at (PySem.W.looks_findIn kin c.hk) ?_
  refine wpAny_bind (wpAny_attempt (wpAny_holding ?_))
  unfold callGetattribute
  refine wpAny_ite_false (by simp) ?_
  unfold boundAndCalled
  refine wpAny_bind (wpAny_of_eq (F.excAttr_ValueError.ga.bind _) ?_)
  show wpAny (model prog w) A (call (.builtin "BaseException.__getattribute__") [.ref x, .str "__class__" s.toks]) _ _ _
  refine wpAny_call (codeAny_call_builtin F.excAttr_ValueError.ga.plain F.entry_bexc_ga ?_)
  refine PySem.W.check_slot (i := "BaseException.__getattribute__") (self := .ref x) (rest := [.str "__class__" s.toks]) (kw := []) kind_ga split_ga (show PySem.W.Looks (model prog w) s.heap (isInstance (.ref x) (.type "BaseException")) true from PySem.W.Looks.andThen I.type (PySem.W.looks_subIn kin c.hs)) (F.args_bexc_ga _ _) ?_
  unfold Builtin.«object.__getattribute__»
  refine wpAny_bind (wpAny_of_eq (a := (Value.ref x, [Value.str "__class__" s.toks])) rfl ?_)
  refine wpAny_bind (wpAny_of_eq (a := ("__class__" : Str)) rfl ?_)
  refine wpAny_bind (PySem.W.Looks.at I.type (wpAny_bind (PySem.W.Looks.at (PySem.W.looks_find kin I fo) ?_)))
  unfold Builtin.ObjectAttr.bindTo
  refine wpAny_bind (wpAny_holding (wpAny_call (PySem.W.class_get kin I c.hm ?_)))
  exact wpAny_pure (wpAny_of_eq (PySem.W.handedOut_of rfl) (wpAny_pure h))
theorem kit_err {K : PySem.W.Frag} {x D : Addr} {ox od : Obj} (c : ExcC K D) : PySem.W.KitX K (.ref x) (.ref D) (fun h => PySem.W.InstAt h x ox D (some od) ∧ ∃ s : Shared, s.heap = h) where
  ty := fun _ _ _ h => h.1.type
  it := fun M h kin hh => by
    obtain ⟨_, s, rfl⟩ := hh
    exact PySem.W.mc_isType kin c.hd
  ne := fun h tp dd its n sl kin ht => by
    obtain ⟨cd, h1, _⟩ := PySem.W.any_some c.hd
    unfold PySem.W.clsIn at h1
    split at h1
    · rename_i l
      have := kin _ _ l
      refine beq_false_of_ne fun e => ?_
      cases e
      rw [ht] at this
      cases this
    · cases h1
  ca := fun kin hh q => class_of c kin hh.1 q
def rIsEd (K : PySem.W.Frag) (a : Addr) (cls : Value) (d : Option Addr) : List V → Hp → VK → Prop := fun xs H Q =>
  ∃ (c : V) (cv : Value) (b : Bool) (D dd : Addr) (fs : List (Str × V)), xs = [.ref a, c] ∧ (∀ u, RelV c u → u = cv) ∧ cls = .ref D ∧ d = some dd ∧ ExcC K D ∧ PySem.W.kitOne K (.ref D) cv = some b ∧ H dd = some (.xd fs) ∧ Q (.bl b) H
theorem call_isEd {X : Cx} {a : Addr} {cls : Value} {d : Option Addr} {oe : Obj} {pn : List (Addr × Obj)} (hz : Zc cls d oe) (hf : ∃ vs, oe.data = .fields vs) :
    CallR (X.suite a ((a, oe) :: pn)) (.builtin "isinstance") (rIsEd X.K a cls d) := by
  rintro pins s σ H xs us Q inv hv ⟨c, cv, b, D, dd, fs, rfl, hc, rfl, rfl, e, hk, hd, q⟩
  obtain ⟨mA, ns, _⟩ : ∃ mA, s.heap.Ns1 dd mA ∧ ∀ f : Str, RelO (List.lookup f fs) (mA f) := inv.hok _ _ hd
  obtain ⟨od, hod, _⟩ := L2.lookIn_ns ns
  have hp := inv.pin (a, oe) (by show (a, oe) ∈ ((a, oe) :: pn) ++ pins; exact List.mem_append_left _ List.mem_cons_self)
  obtain ⟨vs, hvs⟩ := hf
  have I : PySem.W.InstAt s.heap a oe D (some od) := by
    refine ⟨hp.1, hz.1, ?_, ?_⟩
    · unfold PySem.W.notCls; rw [hvs]
    · rw [hz.2]; exact hod
  cases hv with
  | cons r1 hv =>
    cases hv with
    | cons r2 hv =>
      cases hv
      cases r1
      have := hc _ r2
      subst this
      exact PySem.W.kia_one (kit_err e) inv.kIn ⟨I, s, rfl⟩ hk (by intro h; cases h) fun tk => ⟨_, H, inv.kept fun _ _ h => h, (show RelV (.bl b) (.bool b) from rfl), q⟩
end Gx

set_option Elab.async false
set_option linter.all false
set_option maxRecDepth 100000
set_option maxHeartbeats 4000000
/-! Own classes: what the head tells of a method, of a class. -/
namespace Gx
open PySem PySem.Spec PyProof.Rows L2 Evl
structure MDef (K : PySem.W.Frag) (C : Addr) (m qual : Str) (st : Stmt) (f : Addr) (fd : FuncData) (ps : List Str) : Prop where
  fn : Fun K m qual st f fd
  mt : Meth K C m f
  bd : Binds K fd ps []
theorem mdef_mk {K : PySem.W.Frag} {C : Addr} {m qual : Str} {st : Stmt} {f : Addr} {ps : List Str}
    (a : PySem.W.findIn K (.ref C) m = some (some (.ref f))) (i : PySem.W.isFn K (.ref f) = true) (d : IsDef K m qual st f)
    (hb : ∀ (kV doc pm : Value) (an : Option Addr) (cdv ct : Value) (us : List Value), us.length = ps.length →
      bindArgs (PySem.W.fnOf m qual (defArgs st) (defBody st) (defScope st) .none kV doc pm an cdv ct) ⟨us, []⟩ = pure (ps.zip us)) :
    ∃ fd, MDef K C m qual st f fd ps := by
  have kp : PySem.W.keepIn K (.ref f) = true := by obtain ⟨_, _, _, _, _, _, _, _, _, _, _, k⟩ := d; exact k
  obtain ⟨fd, F⟩ := d.fn
  exact ⟨fd, F, ⟨a, i, kp⟩, F.binds hb⟩
/-! ### the one who asks: its fields -/
structure AskerT (K : PySem.W.Frag) (mg : Str → Option Value) (C fI : Addr) : Prop where
  cl : Cls K C
  mak : Mk K C fI
  gC : mg "Asker" = some (.ref C)
  row : NoAttr K C "row"
  plan : NoAttr K C "plan"
  every : NoAttr K C "every"
  lowers : NoAttr K C "lowers"
  trail : NoAttr K C "trail"
def askF (r d : Addr) (ev lo : Bool) (tr : Addr) : List (Str × V) := [("row", .ref r), ("plan", .ref d), ("every", .bl ev), ("lowers", .bl lo), ("trail", .ref tr)]
section
variable {r d tr : Addr} {ev lo : Bool}
theorem ask_row : (askF r d ev lo tr).lookup ("row" : Str) = some (.ref r) := by unfold askF; simp [List.lookup]
theorem ask_plan : (askF r d ev lo tr).lookup ("plan" : Str) = some (.ref d) := by
  unfold askF
  have e1 : (("plan" : Str) == "row") = false := by decide +kernel
  have e2 : (("plan" : Str) == "plan") = true := by decide +kernel
  simp only [List.lookup, e1, e2]
theorem ask_every : (askF r d ev lo tr).lookup ("every" : Str) = some (.bl ev) := by
  unfold askF
  have e1 : (("every" : Str) == "row") = false := by decide +kernel
  have e2 : (("every" : Str) == "plan") = false := by decide +kernel
  have e3 : (("every" : Str) == "every") = true := by decide +kernel
  simp only [List.lookup, e1, e2, e3]
theorem ask_lowers : (askF r d ev lo tr).lookup ("lowers" : Str) = some (.bl lo) := by
  unfold askF
  have e1 : (("lowers" : Str) == "row") = false := by decide +kernel
  have e2 : (("lowers" : Str) == "plan") = false := by decide +kernel
  have e3 : (("lowers" : Str) == "every") = false := by decide +kernel
  have e4 : (("lowers" : Str) == "lowers") = true := by decide +kernel
  simp only [List.lookup, e1, e2, e3, e4]
theorem ask_trail : (askF r d ev lo tr).lookup ("trail" : Str) = some (.ref tr) := by
  unfold askF
  have e1 : (("trail" : Str) == "row") = false := by decide +kernel
  have e2 : (("trail" : Str) == "plan") = false := by decide +kernel
  have e3 : (("trail" : Str) == "every") = false := by decide +kernel
  have e4 : (("trail" : Str) == "lowers") = false := by decide +kernel
  have e5 : (("trail" : Str) == "trail") = true := by decide +kernel
  simp only [List.lookup, e1, e2, e3, e4, e5]
def askNames : List Str := ["row", "plan", "every", "lowers", "trail"]
theorem ask_no {m : Str} (h : m ∉ askNames) : (askF r d ev lo tr).lookup m = none := by
  unfold askNames at h
  simp only [List.mem_cons, List.not_mem_nil, or_false, not_or] at h
  obtain ⟨h1, h2, h3, h4, h5⟩ := h
  have e : ∀ {x y : Str}, x ≠ y → (x == y) = false := fun h => beq_false_of_ne h
  unfold askF
  simp only [List.lookup, e h1, e h2, e h3, e h4, e h5]
theorem ask_puts (x1 x2 x3 x4 x5 : V) : putF "trail" x5 (putF "lowers" x4 (putF "every" x3 (putF "plan" x2 (putF "row" x1 [])))) =
    [(("row" : Str), x1), ("plan", x2), ("every", x3), ("lowers", x4), ("trail", x5)] := by
  have e1 : ¬ ("row" : Str) = "plan" := by decide +kernel
  have e2 : ¬ ("row" : Str) = "every" := by decide +kernel
  have e3 : ¬ ("row" : Str) = "lowers" := by decide +kernel
  have e4 : ¬ ("row" : Str) = "trail" := by decide +kernel
  have e5 : ¬ ("plan" : Str) = "every" := by decide +kernel
  have e6 : ¬ ("plan" : Str) = "lowers" := by decide +kernel
  have e7 : ¬ ("plan" : Str) = "trail" := by decide +kernel
  have e8 : ¬ ("every" : Str) = "lowers" := by decide +kernel
  have e9 : ¬ ("every" : Str) = "trail" := by decide +kernel
  have e0 : ¬ ("lowers" : Str) = "trail" := by decide +kernel
  simp only [putF, e1, e2, e3, e4, e5, e6, e7, e8, e9, e0, if_false]
end
theorem putF_le {f : Str} {v : V} {fs : List (Str × V)} {n : Nat} (h : fs.length ≤ n) : (putF f v fs).length ≤ n + 1 :=
  Nat.le_trans (length_putF _ _ _) (Nat.succ_le_succ h)
theorem lt1000 {n m : Nat} (h : n ≤ m) (h2 : m ≤ 50) : n < 1000 := by omega
/-- a plan's dict: the orders of addresses -/
def PlanAt (H : Hp) (d : Addr) (M : Md) (tr : Addr) : Prop := ∃ kvs : List (List Key × V), H d = some (.dT kvs) ∧
  ∀ adr : List Int, match M.ord adr with
    | none => valV kvs (adr.map Sum.inl) = none
    | some o => ∃ p : Addr, valV kvs (adr.map Sum.inl) = some (.ref p) ∧ H p = some (.lst (o.map fun i : Nat => V.int i)) ∧ p ≠ tr
theorem PlanAt.to {H H' : Hp} {d tr : Addr} {M : Md} {ts : List V} (h : PlanAt H d M tr) (e : ExB tr H H') (ht : H tr = some (.lst ts)) : PlanAt H' d M tr := by
  obtain ⟨kvs, h1, h2⟩ := h
  refine ⟨kvs, e _ _ (fun z => by subst z; rw [ht] at h1; cases h1) h1, fun adr => ?_⟩
  have h2 := h2 adr
  cases q : M.ord adr with
  | none => rw [q] at h2; exact h2
  | some o =>
    rw [q] at h2
    obtain ⟨p, h3, h4, h5⟩ := h2
    exact ⟨p, h3, e _ _ h5 h4, h5⟩
theorem plan0 {H : Hp} {d tr : Addr} (h : H d = some (.dT [])) : PlanAt H d Md0 tr := ⟨[], h, fun adr => rfl⟩
/-! ### what different parts weigh together -/
theorem sum_diff (f : Nat → Nat) : ∀ (n : Nat) (o : List Nat), o.Nodup → (∀ i ∈ o, i < n) → (o.map f).sum ≤ ((List.range n).map f).sum
  | 0, o, _, h => by
    cases o with
    | nil => simp
    | cons a o => exact absurd (h a List.mem_cons_self) (Nat.not_lt_zero _)
  | n + 1, o, nd, h => by
    have ih := sum_diff f n (o.filter fun i => decide (i ≠ n)) (nd.filter _) fun i hi => by
      obtain ⟨h1, h2⟩ := List.mem_filter.mp hi
      have := h i h1
      have := of_decide_eq_true h2
      omega
    have : ∀ l : List Nat, l.Nodup → (l.map f).sum ≤ ((l.filter fun i => decide (i ≠ n)).map f).sum + f n := by
      intro l
      induction l with
      | nil => intro _; simp
      | cons a l ihl =>
        intro nd
        obtain ⟨n1, n2⟩ := List.nodup_cons.mp nd
        by_cases e : a = n
        · subst e
          have : l.filter (fun i => decide (i ≠ a)) = l := List.filter_eq_self.mpr fun i hi => decide_eq_true fun z => n1 (z ▸ hi)
          rw [List.filter_cons_of_neg (by simp), this, List.map_cons, List.sum_cons]
          omega
        · rw [List.filter_cons_of_pos (by simp [e]), List.map_cons, List.map_cons, List.sum_cons, List.sum_cons]
          have := ihl n2
          omega
    have := this o nd
    rw [List.range_succ, List.map_append, List.sum_append]
    simp only [List.map_cons, List.map_nil, List.sum_cons, List.sum_nil]
    omega
def wAt (cs : List Cnd) (i : Nat) : Nat := match cs[i]? with | some c => c.weight | none => 0
theorem wAt_sum : ∀ cs : List Cnd, ((List.range cs.length).map (wAt cs)).sum ≤ Cnd.weightL cs
  | [] => by simp
  | c :: cs => by
    rw [List.length_cons, List.range_succ_eq_map, List.map_cons, List.sum_cons, List.map_map, Cnd.weightL]
    have e : (wAt (c :: cs) ∘ Nat.succ) = wAt cs := by funext i; simp [wAt]
    have e0 : wAt (c :: cs) 0 = c.weight := rfl
    rw [e, e0]
    have := wAt_sum cs
    omega
end Gx
namespace Gx
theorem nodup_len {n : Nat} {o : List Nat} (nd : o.Nodup) (h : ∀ i ∈ o, i < n) : o.length ≤ n := by
  have e : ∀ l : List Nat, (l.map fun _ => 1).sum = l.length := by
    intro l
    induction l with
    | nil => rfl
    | cons a l ih => rw [List.map_cons, List.sum_cons, ih, List.length_cons]; omega
  have := sum_diff (fun _ => 1) n o nd h
  rw [e, e, List.length_range] at this
  exact this
end Gx
namespace Gx
open PySem PySem.Spec PyProof.Rows L2 Evl
theorem flat_strs (f : List Str) : (f.map V.str).all flatV = true := by
  rw [List.all_eq_true]
  intro x hx
  obtain ⟨y, _, rfl⟩ := List.mem_map.mp hx
  rfl
theorem inV_strs (x : Str) (f : List Str) : inV (.str x) (f.map V.str) = decide (x ∈ f) := by
  unfold inV
  rw [List.any_map]
  by_cases h : x ∈ f
  · rw [decide_eq_true h, List.any_eq_true]
    exact ⟨x, h, by simp [eqV]⟩
  · rw [decide_eq_false h, List.any_eq_false]
    intro y hy e
    have e : (y == x) = true := e
    rw [beq_iff_eq] at e
    exact h (e ▸ hy)
end Gx

set_option Elab.async false
set_option linter.all false
set_option maxRecDepth 100000
set_option maxHeartbeats 4000000
/-! Targets that take a tuple or a list. -/
namespace Gx
open PySem PySem.Spec PyProof.Rows L2 Evl
theorem pg_or {X : Cx} {tg : Expr} {g1 g2 : TG} (h1 : PG X tg g1) (h2 : PG X tg g2) : PG X tg (fun v σ H Q => g1 v σ H Q ∨ g2 v σ H Q) :=
  ⟨fun pins s σ H v u Q I r h => h.elim (fun z => h1.run pins s σ H v u Q I r z) (fun z => h2.run pins s σ H v u Q I r z)⟩
end Gx

set_option Elab.async false
set_option linter.all false
set_option maxRecDepth 100000
set_option maxHeartbeats 4000000
/-! Comprehensions of two clauses, over lists and tuples. -/
namespace Gx
open PySem PySem.Spec PyProof.Rows L2 Evl
/-- the second clause's loop, from which Nx is reached -/
abbrev Inner (g1 : TG) (tt1 : TT) (te : TE) (vs1 : List Nat) (D : Addr) (σ2 : L2.St) (Nx : Hp → Prop) (J1 : It) (H4 : Hp) : Prop :=
  ∃ W1 : Nat → Nat → Hp → Prop, (∃ m, W1 0 m H4) ∧ ∀ j k H, W1 j k H →
    (J1.stop j H ∧ Nx H) ∨ (J1.go j H ∧ ∃ Nx1 : Hp → Prop, (∀ H', Nx1 H' → ∃ k', k' < k ∧ W1 (j + 1) k' H') ∧ ∀ x H', J1.yld j H x H' → g1 x (wipe σ2 vs1) H' fun σ3 H5 => wipe σ3 vs1 = wipe σ2 vs1 ∧ tt1 σ3 H5 fun b H6 =>
      if b = true then te σ3 H6 fun y H7 => ∃ acc, H7 D = some (.lst acc) ∧ acc.length < sizeLine ∧ Nx1 (upd H7 D (.lst (acc ++ [y]))) else Nx1 H6)
section
variable {K : PySem.W.Frag} {a D : Addr} {xs : List V} {g1 : TG} {tt1 : TT} {te : TE} {vs1 : List Nat} {σ2 : L2.St} {Nx : Hp → Prop} {H4 : Hp}
theorem inner_tup (Pw : Nat → Hp → Prop) (h0 : Pw 0 H4) (hl : ∀ j H, j ≤ xs.length → Pw j H → SqT K H a xs)
    (hs : ∀ j x H, xs[j]? = some x → Pw j H → g1 x (wipe σ2 vs1) H fun σ3 H5 => wipe σ3 vs1 = wipe σ2 vs1 ∧ tt1 σ3 H5 fun b H6 =>
      if b = true then te σ3 H6 fun y H7 => ∃ acc, H7 D = some (.lst acc) ∧ acc.length < sizeLine ∧ Pw (j + 1) (upd H7 D (.lst (acc ++ [y]))) else Pw (j + 1) H6)
    (hd : ∀ H, Pw xs.length H → Nx H) : Inner g1 tt1 te vs1 D σ2 Nx (Itt K a) H4 := by
  refine ⟨fun j k H => k = xs.length - j ∧ j ≤ xs.length ∧ Pw j H, ⟨_, rfl, Nat.zero_le _, h0⟩, ?_⟩
  rintro j k H ⟨ek, hj, p⟩
  have q := hl j H hj p
  rcases Nat.lt_or_ge j xs.length with hlt | hge
  · refine .inr ⟨⟨xs, _, q, List.getElem?_eq_getElem hlt⟩, Pw (j + 1), fun H' p' => ⟨_, by rw [ek]; exact Nat.sub_lt_sub_left hlt (Nat.lt_succ_self j), rfl, hlt, p'⟩, fun x H' y => ?_⟩
    have e := y.1
    have y := y.2 xs q
    rw [e]
    exact hs j x _ y p
  · have e : j = xs.length := Nat.le_antisymm hj hge
    subst e
    exact .inl ⟨⟨xs, q, Nat.le_refl _⟩, hd H p⟩
theorem inner_list (Pw : Nat → Hp → Prop) (h0 : Pw 0 H4) (hl : ∀ j H, j ≤ xs.length → Pw j H → SqL K H a xs)
    (hs : ∀ j x H, xs[j]? = some x → Pw j H → g1 x (wipe σ2 vs1) H fun σ3 H5 => wipe σ3 vs1 = wipe σ2 vs1 ∧ tt1 σ3 H5 fun b H6 =>
      if b = true then te σ3 H6 fun y H7 => ∃ acc, H7 D = some (.lst acc) ∧ acc.length < sizeLine ∧ Pw (j + 1) (upd H7 D (.lst (acc ++ [y]))) else Pw (j + 1) H6)
    (hd : ∀ H, Pw xs.length H → Nx H) : Inner g1 tt1 te vs1 D σ2 Nx (Itl K a) H4 := by
  refine ⟨fun j k H => k = xs.length - j ∧ j ≤ xs.length ∧ Pw j H, ⟨_, rfl, Nat.zero_le _, h0⟩, ?_⟩
  rintro j k H ⟨ek, hj, p⟩
  have q := hl j H hj p
  rcases Nat.lt_or_ge j xs.length with hlt | hge
  · refine .inr ⟨⟨xs, _, q, List.getElem?_eq_getElem hlt⟩, Pw (j + 1), fun H' p' => ⟨_, by rw [ek]; exact Nat.sub_lt_sub_left hlt (Nat.lt_succ_self j), rfl, hlt, p'⟩, fun x H' y => ?_⟩
    have e := y.1
    have y := y.2 xs q
    rw [e]
    exact hs j x _ y p
  · have e : j = xs.length := Nat.le_antisymm hj hge
    subst e
    exact .inl ⟨⟨xs, q, Nat.le_refl _⟩, hd H p⟩
end
section
variable {K : PySem.W.Frag} {a D : Addr} {xs : List V} {g g1 : TG} {tt tt1 : TT} {wi1 : TI} {te : TE} {vs vs1 : List Nat} {σ : L2.St} {H1 : Hp} {Qd : Hp → Prop}
/-- what the first clause's turn comes to -/
abbrev Turn2 (g : TG) (tt : TT) (wi1 : TI) (g1 : TG) (tt1 : TT) (te : TE) (vs vs1 : List Nat) (σ : L2.St) (D : Addr) (Nx : Hp → Prop) (x : V) (H : Hp) : Prop :=
  g x (wipe σ vs) H fun σ2 H2 => wipe σ2 vs = wipe σ vs ∧ tt σ2 H2 fun b H3 => if b = true then wi1 σ2 H3 (Inner g1 tt1 te vs1 D σ2 Nx) else Nx H3
theorem lc2_list (Pv : Nat → Hp → Prop) (h0 : Pv 0 (upd H1 D (.lst []))) (hl : ∀ i H, i ≤ xs.length → Pv i H → SqL K H a xs)
    (hs : ∀ i x H, xs[i]? = some x → Pv i H → Turn2 g tt wi1 g1 tt1 te vs vs1 σ D (Pv (i + 1)) x H) (hd : ∀ H, Pv xs.length H → Qd H) :
    ∃ W : Nat → Nat → Hp → Prop, (∃ m, W 0 m (upd H1 D (.lst []))) ∧ ∀ i m H, W i m H →
      ((Itl K a).stop i H ∧ Qd H) ∨ ((Itl K a).go i H ∧ ∃ Nx : Hp → Prop, (∀ H', Nx H' → ∃ m', m' < m ∧ W (i + 1) m' H') ∧ ∀ x H', (Itl K a).yld i H x H' → Turn2 g tt wi1 g1 tt1 te vs vs1 σ D Nx x H') := by
  refine ⟨fun i m H => m = xs.length - i ∧ i ≤ xs.length ∧ Pv i H, ⟨_, rfl, Nat.zero_le _, h0⟩, ?_⟩
  rintro i m H ⟨em, hi, p⟩
  have q := hl i H hi p
  rcases Nat.lt_or_ge i xs.length with hlt | hge
  · refine .inr ⟨⟨xs, _, q, List.getElem?_eq_getElem hlt⟩, Pv (i + 1), fun H' p' => ⟨_, by rw [em]; exact Nat.sub_lt_sub_left hlt (Nat.lt_succ_self i), rfl, hlt, p'⟩, fun x H' y => ?_⟩
    have e := y.1
    have y := y.2 xs q
    rw [e]
    exact hs i x _ y p
  · have e : i = xs.length := Nat.le_antisymm hi hge
    subst e
    exact .inl ⟨⟨xs, q, Nat.le_refl _⟩, hd H p⟩
theorem lc2_tup (Pv : Nat → Hp → Prop) (h0 : Pv 0 (upd H1 D (.lst []))) (hl : ∀ i H, i ≤ xs.length → Pv i H → SqT K H a xs)
    (hs : ∀ i x H, xs[i]? = some x → Pv i H → Turn2 g tt wi1 g1 tt1 te vs vs1 σ D (Pv (i + 1)) x H) (hd : ∀ H, Pv xs.length H → Qd H) :
    ∃ W : Nat → Nat → Hp → Prop, (∃ m, W 0 m (upd H1 D (.lst []))) ∧ ∀ i m H, W i m H →
      ((Itt K a).stop i H ∧ Qd H) ∨ ((Itt K a).go i H ∧ ∃ Nx : Hp → Prop, (∀ H', Nx H' → ∃ m', m' < m ∧ W (i + 1) m' H') ∧ ∀ x H', (Itt K a).yld i H x H' → Turn2 g tt wi1 g1 tt1 te vs vs1 σ D Nx x H') := by
  refine ⟨fun i m H => m = xs.length - i ∧ i ≤ xs.length ∧ Pv i H, ⟨_, rfl, Nat.zero_le _, h0⟩, ?_⟩
  rintro i m H ⟨em, hi, p⟩
  have q := hl i H hi p
  rcases Nat.lt_or_ge i xs.length with hlt | hge
  · refine .inr ⟨⟨xs, _, q, List.getElem?_eq_getElem hlt⟩, Pv (i + 1), fun H' p' => ⟨_, by rw [em]; exact Nat.sub_lt_sub_left hlt (Nat.lt_succ_self i), rfl, hlt, p'⟩, fun x H' y => ?_⟩
    have e := y.1
    have y := y.2 xs q
    rw [e]
    exact hs i x _ y p
  · have e : i = xs.length := Nat.le_antisymm hi hge
    subst e
    exact .inl ⟨⟨xs, q, Nat.le_refl _⟩, hd H p⟩
end
/-- a tuple, one item longer -/
theorem cat_one {K : PySem.W.Frag} {H : Hp} {ad t : Addr} {xs : List V} {y : V} {Q : VK} (h1 : H ad = some (.tup xs)) (h2 : H t = some (.tup [y]))
    (sz : xs.length ≤ 100000) (k : ∀ p H', Ex H H' → H' p = some (.tup (xs ++ [y])) → Q (.ref p) H') : rCatA K (.ref ad) (.ref t) H Q := by
  refine ⟨ad, t, _, _, rfl, rfl, SqT.of h1, SqT.of h2, Nat.le_trans (Nat.add_le_add_right sz 1) (by decide), fun h => ?_, fun _ h => (by cases h), fun _ _ p np => k p _ (Ex.new np) upd_same⟩
  subst h
  exact k t H (Ex.refl H) h2
/-- the rules where the context is another than the written part's -/
theorem pi_tupK {X : Cx} {K : PySem.W.Frag} {tg e : Expr} {te : TE} (h : X.K = K) (he : PE X e te) : PI X tg e (iTup K te) := by rw [← h]; exact pi_tup he
theorem pi_listK {X : Cx} {K : PySem.W.Frag} {tg e : Expr} {te : TE} (h : X.K = K) (he : PE X e te) : PI X tg e (iList K te) := by rw [← h]; exact pi_list he
theorem op_catAK {X : Cx} {K : PySem.W.Frag} (h : X.K = K) : OpR X (binaryOp .Add) (rCatA K) := by rw [← h]; exact op_catA
end Gx

set_option linter.all false
/-! Stretches of integers, their lists in order: what is put together of them. -/
namespace Gx
abbrev Sx := Option Int × Option Int
namespace Spn
def has (p : Sx) (x : Int) : Prop := (∀ l, p.1 = some l → l ≤ x) ∧ (∀ h, p.2 = some h → x ≤ h)
def ok (p : Sx) : Prop := ∀ l h, p.1 = some l → p.2 = some h → l ≤ h
def hasL (s : List Sx) (x : Int) : Prop := ∃ p ∈ s, has p x
def Sep (p q : Sx) : Prop := ∃ h l, p.2 = some h ∧ q.1 = some l ∧ h + 1 < l
structure Canon (s : List Sx) : Prop where
  ok : ∀ p ∈ s, ok p
  sep : s.Pairwise Sep
theorem hasL_nil (x : Int) : ¬ hasL [] x := fun ⟨_, h, _⟩ => by cases h
theorem hasL_cons {p : Sx} {s : List Sx} {x : Int} : hasL (p :: s) x ↔ has p x ∨ hasL s x := by
  unfold hasL
  constructor
  · rintro ⟨q, hq, hx⟩
    rcases List.mem_cons.mp hq with rfl | hq
    · exact .inl hx
    · exact .inr ⟨q, hq, hx⟩
  · rintro (h | ⟨q, hq, hx⟩)
    · exact ⟨p, List.mem_cons_self, h⟩
    · exact ⟨q, List.mem_cons_of_mem _ hq, hx⟩
theorem hasL_append {s t : List Sx} {x : Int} : hasL (s ++ t) x ↔ hasL s x ∨ hasL t x := by
  induction s with
  | nil => simp [hasL_nil, hasL]
  | cons p s ih => rw [List.cons_append, hasL_cons, hasL_cons, ih, or_assoc]
theorem hasL_perm {s t : List Sx} (h : s.Perm t) {x : Int} : hasL s x ↔ hasL t x := by
  unfold hasL
  constructor
  · rintro ⟨p, hp, hx⟩; exact ⟨p, h.mem_iff.mp hp, hx⟩
  · rintro ⟨p, hp, hx⟩; exact ⟨p, h.mem_iff.mpr hp, hx⟩
theorem Canon.nil : Canon [] := ⟨by simp, .nil⟩
theorem Canon.tail {p : Sx} {s : List Sx} (h : Canon (p :: s)) : Canon s := ⟨fun q hq => h.ok q (List.mem_cons_of_mem _ hq), (List.pairwise_cons.mp h.sep).2⟩
theorem Canon.one {p : Sx} (h : Spn.ok p) : Canon [p] := ⟨by simpa using h, by simp⟩
theorem Canon.cons {p : Sx} {s : List Sx} (h : Spn.ok p) (h' : ∀ q ∈ s, Sep p q) (c : Canon s) : Canon (p :: s) :=
  ⟨fun q hq => by rcases List.mem_cons.mp hq with rfl | hq; exact h; exact c.ok q hq, List.pairwise_cons.mpr ⟨h', c.sep⟩⟩
theorem Sep.gt {p q : Sx} {x y : Int} (h : Sep p q) (hx : has p x) (hy : has q y) : x + 1 < y := by
  obtain ⟨a, b, e1, e2, e⟩ := h
  have := hx.2 a e1
  have := hy.1 b e2
  omega
theorem ok_has {p : Sx} (h : ok p) : ∃ x, has p x := by
  obtain ⟨l, u⟩ := p
  cases l with
  | some l => exact ⟨l, ⟨fun a e => (by cases e; omega), fun b e => h l b rfl e⟩⟩
  | none =>
    cases u with
    | some u => exact ⟨u, ⟨fun a e => (by cases e), fun b e => (by cases e; omega)⟩⟩
    | none => exact ⟨0, ⟨fun a e => (by cases e), fun b e => (by cases e)⟩⟩
/-- the low end of the first stretch bounds all -/
theorem Canon.low {p : Sx} {s : List Sx} {l x : Int} (c : Canon (p :: s)) (e : p.1 = some l) (h : hasL (p :: s) x) : l ≤ x := by
  rcases hasL_cons.mp h with h | ⟨q, hq, h⟩
  · exact h.1 l e
  · obtain ⟨a, b, e1, e2, e3⟩ := (List.pairwise_cons.mp c.sep).1 q hq
    have := h.1 b e2
    have := c.ok p List.mem_cons_self l a e e1
    omega
/-- what stands right behind the first stretch is in none -/
theorem Canon.behind {p : Sx} {s : List Sx} {u : Int} (c : Canon (p :: s)) (e : p.2 = some u) : ¬ hasL (p :: s) (u + 1) := by
  intro h
  rcases hasL_cons.mp h with h | ⟨q, hq, h⟩
  · have := h.2 u e; omega
  · obtain ⟨a, b, e1, e2, e3⟩ := (List.pairwise_cons.mp c.sep).1 q hq
    have := h.1 b e2
    rw [e] at e1; cases e1
    omega
theorem low_none {p q : Sx} {s t : List Sx} (c : Canon (p :: s)) (d : Canon (q :: t)) (h : ∀ x, hasL (p :: s) x → hasL (q :: t) x) (e : p.1 = none) : q.1 = none := by
  cases hq : q.1 with
  | none => rfl
  | some l =>
    exfalso
    obtain ⟨a, u⟩ := p
    dsimp only at e
    subst e
    cases u with
    | none =>
      have := d.low hq (h (l - 1) (hasL_cons.mpr (.inl ⟨fun _ z => (by cases z), fun _ z => (by cases z)⟩)))
      omega
    | some u =>
      have := d.low hq (h (min u (l - 1)) (hasL_cons.mpr (.inl ⟨fun _ z => (by cases z), fun _ z => (by cases z; omega)⟩)))
      omega
theorem low_le {p q : Sx} {s t : List Sx} {a b : Int} (c : Canon (p :: s)) (d : Canon (q :: t)) (h : ∀ x, hasL (p :: s) x → hasL (q :: t) x) (ea : p.1 = some a) (eb : q.1 = some b) : b ≤ a := by
  have hp : has p a := ⟨fun l z => by rw [ea] at z; cases z; omega, fun u z => c.ok p List.mem_cons_self a u ea z⟩
  exact d.low eb (h a (hasL_cons.mpr (.inl hp)))
theorem low_eq {p q : Sx} {s t : List Sx} (c : Canon (p :: s)) (d : Canon (q :: t)) (h : ∀ x, hasL (p :: s) x ↔ hasL (q :: t) x) : p.1 = q.1 := by
  cases e : p.1 with
  | none => exact (low_none c d (fun x => (h x).mp) e).symm
  | some a =>
    cases e' : q.1 with
    | none => rw [low_none d c (fun x => (h x).mpr) e'] at e; cases e
    | some b =>
      have h1 := low_le c d (fun x => (h x).mp) e e'
      have h2 := low_le d c (fun x => (h x).mpr) e' e
      congr 1; omega
theorem high_le {p q : Sx} {s t : List Sx} {u : Int} (c : Canon (p :: s)) (d : Canon (q :: t)) (h : ∀ x, hasL (p :: s) x ↔ hasL (q :: t) x) (e : q.2 = some u) : ∃ v, p.2 = some v ∧ v ≤ u := by
  have l := low_eq c d h
  have no : ¬ has p (u + 1) := fun z => d.behind e ((h _).mp (hasL_cons.mpr (.inl z)))
  have lo : ∀ a, p.1 = some a → a ≤ u := fun a ea => d.ok q List.mem_cons_self a u (by rw [← l]; exact ea) e
  cases hp : p.2 with
  | none => exact absurd ⟨fun a ea => by have := lo a ea; omega, fun b eb => by rw [hp] at eb; cases eb⟩ no
  | some v =>
    refine ⟨v, rfl, ?_⟩
    by_cases q : v ≤ u
    · exact q
    · exact absurd ⟨fun a ea => by have := lo a ea; omega, fun b eb => by rw [hp] at eb; cases eb; omega⟩ no
theorem high_eq {p q : Sx} {s t : List Sx} (c : Canon (p :: s)) (d : Canon (q :: t)) (h : ∀ x, hasL (p :: s) x ↔ hasL (q :: t) x) : p.2 = q.2 := by
  cases e : q.2 with
  | some u =>
    obtain ⟨v, e1, h1⟩ := high_le c d h e
    obtain ⟨u', e2, h2⟩ := high_le d c (fun x => (h x).symm) e1
    rw [e] at e2; cases e2
    rw [e1]; congr 1; omega
  | none =>
    cases e' : p.2 with
    | none => rfl
    | some v =>
      obtain ⟨u', e2, h2⟩ := high_le d c (fun x => (h x).symm) e'
      rw [e] at e2; cases e2
/-- lists of one and the same lot are the same -/
theorem canon_eq : ∀ {s t : List Sx}, Canon s → Canon t → (∀ x, hasL s x ↔ hasL t x) → s = t
  | [], [], _, _, _ => rfl
  | [], q :: t, _, d, h => by
    obtain ⟨x, hx⟩ := ok_has (d.ok q List.mem_cons_self)
    exact absurd ((h x).mpr (hasL_cons.mpr (.inl hx))) (hasL_nil x)
  | p :: s, [], c, _, h => by
    obtain ⟨x, hx⟩ := ok_has (c.ok p List.mem_cons_self)
    exact absurd ((h x).mp (hasL_cons.mpr (.inl hx))) (hasL_nil x)
  | p :: s, q :: t, c, d, h => by
    have e : p = q := Prod.ext (low_eq c d h) (high_eq c d h)
    subst e
    have cut : ∀ {s t : List Sx}, Canon (p :: s) → (∀ x, hasL (p :: s) x → hasL (p :: t) x) → ∀ x, hasL s x → hasL t x := fun {s t} c h x hx => by
      rcases hasL_cons.mp (h x (hasL_cons.mpr (.inr hx))) with z | z
      · obtain ⟨r, hr, y⟩ := hx
        have := ((List.pairwise_cons.mp c.sep).1 r hr).gt z y
        omega
      · exact z
    rw [canon_eq c.tail d.tail fun x => ⟨cut c (fun x => (h x).mp) x, cut d (fun x => (h x).mpr) x⟩]
-- ---- put in order and joined
def joinGo : Sx → List Sx → List Sx
  | c, [] => [c]
  | (f, none), _ :: _ => [(f, none)]
  | (f, some l), (none, none) :: r => joinGo (f, none) r
  | (f, some l), (none, some u) :: r => if u > l then joinGo (f, some u) r else joinGo (f, some l) r
  | (f, some l), (some a, u) :: r => if a > l + 1 then (f, some l) :: joinGo (some a, u) r else
      match u with
      | none => joinGo (f, none) r
      | some u => if u > l then joinGo (f, some u) r else joinGo (f, some l) r
/-- low ends, one behind the other -/
def lowLe (p q : Sx) : Prop := ∀ b, q.1 = some b → ∀ a, p.1 = some a → a ≤ b
def LowLe (p q : Sx) : Prop := lowLe p q ∧ (p.1 ≠ none → q.1 ≠ none)
theorem joinGo_low {a : Int} : ∀ {c : Sx} {r : List Sx}, (∃ b, c.1 = some b ∧ a ≤ b) → (∀ q ∈ r, ∃ b, q.1 = some b ∧ a ≤ b) → ∀ q ∈ joinGo c r, ∃ b, q.1 = some b ∧ a ≤ b
  | c, [], e, _, q, hq => by
    simp only [joinGo, List.mem_singleton] at hq
    subst hq
    exact e
  | (f, none), _ :: _, e, _, q, hq => by
    simp only [joinGo, List.mem_singleton] at hq
    subst hq
    exact e
  | (f, some l), (none, none) :: r, e, h, q, hq => by
    obtain ⟨b, z, _⟩ := h _ List.mem_cons_self
    cases z
  | (f, some l), (none, some u) :: r, e, h, q, hq => by
    obtain ⟨b, z, _⟩ := h _ List.mem_cons_self
    cases z
  | (f, some l), (some b, u) :: r, e, h, q, hq => by
    have hr : ∀ q ∈ r, ∃ b, q.1 = some b ∧ a ≤ b := fun q hq => h q (List.mem_cons_of_mem _ hq)
    obtain ⟨b', z, hb⟩ := h _ List.mem_cons_self
    cases z
    unfold joinGo at hq
    split at hq
    · rcases List.mem_cons.mp hq with rfl | hq
      · exact e
      · exact joinGo_low ⟨_, rfl, hb⟩ hr q hq
    · cases u with
      | none => exact joinGo_low (c := (f, none)) e hr q hq
      | some u =>
        dsimp only at hq
        split at hq
        · exact joinGo_low (c := (f, some u)) e hr q hq
        · exact joinGo_low (c := (f, some l)) e hr q hq
/-- in order of the low ends -/
def Low : Option Int → Option Int → Prop
  | none, _ => True
  | some _, none => False
  | some a, some b => a ≤ b
theorem Low.trans {a b c : Option Int} (h : Low a b) (h' : Low b c) : Low a c := by
  cases a <;> cases b <;> cases c <;> simp_all [Low]
  omega
def Ord (s : List Sx) : Prop := s.Pairwise fun p q => Low p.1 q.1
theorem has_same {f : Option Int} {l u x : Int} {a : Option Int} (hok : Spn.ok (a, some u)) (hul : ¬ u > l) (hlow : Low f a) (hal : ∀ b, a = some b → ¬ b > l + 1) :
    has (f, some l) x ↔ has (f, some l) x ∨ has (a, some u) x := by
  constructor
  · exact .inl
  · rintro (h | h)
    · exact h
    · refine ⟨fun c e => ?_, fun c e => ?_⟩
      · dsimp only at e; subst e
        cases a with
        | none => exact hlow.elim
        | some b => have := h.1 b rfl; have : c ≤ b := hlow; omega
      · cases e; have := h.2 u rfl; omega
theorem has_more {f : Option Int} {l x : Int} {u a : Option Int} (hul : ∀ v, u = some v → v > l) (hlow : Low f a) (hal : ∀ b, a = some b → ¬ b > l + 1) :
    has (f, u) x ↔ has (f, some l) x ∨ has (a, u) x := by
  constructor
  · intro h
    by_cases q : x ≤ l
    · exact .inl ⟨h.1, fun c e => by cases e; exact q⟩
    · refine .inr ⟨fun b e => ?_, h.2⟩
      have := hal b e
      omega
  · rintro (h | h)
    · exact ⟨h.1, fun c e => by have := hul c e; have := h.2 l rfl; omega⟩
    · refine ⟨fun c e => ?_, h.2⟩
      dsimp only at e; subst e
      cases a with
      | none => exact hlow.elim
      | some b => have := h.1 b rfl; have : c ≤ b := hlow; omega
theorem joinGo_ok : ∀ {c : Sx} {r : List Sx}, Spn.ok c → (∀ q ∈ r, Spn.ok q) → Ord (c :: r) → Canon (joinGo c r) ∧ ∀ x, hasL (joinGo c r) x ↔ hasL (c :: r) x
  | c, [], h, _, _ => by
    have e : joinGo c [] = [c] := by unfold joinGo; rfl
    rw [e]
    exact ⟨.one h, fun x => Iff.rfl⟩
  | (f, none), q :: r, h, hr, ho => by
    simp only [joinGo]
    refine ⟨.one h, fun x => ?_⟩
    rw [hasL_cons, hasL_cons]
    constructor
    · rintro (h | h)
      · exact .inl h
      · exact absurd h (hasL_nil x)
    · rintro (h | ⟨p, hp, hx⟩)
      · exact .inl h
      · refine .inl ⟨fun a e => ?_, fun a e => by cases e⟩
        have := (List.pairwise_cons.mp ho).1 p hp
        dsimp only at e this
        rw [e] at this
        obtain ⟨lo, hi⟩ := p
        cases lo with
        | none => exact this.elim
        | some b => have := hx.1 b rfl; have h2 : a ≤ b := by assumption
                    omega
  | (f, some l), (a, u) :: r, h, hr, ho => by
    have hr' : ∀ q ∈ r, Spn.ok q := fun q hq => hr q (List.mem_cons_of_mem _ hq)
    have hq : Spn.ok (a, u) := hr _ List.mem_cons_self
    obtain ⟨o1, o2⟩ := List.pairwise_cons.mp ho
    obtain ⟨o3, o4⟩ := List.pairwise_cons.mp o2
    have lo : Low f a := o1 _ List.mem_cons_self
    have ordf : ∀ v : Option Int, Ord ((f, v) :: r) := fun v => List.pairwise_cons.mpr ⟨fun p hp => lo.trans (o3 p hp), o4⟩
    -- the stretch grows
    have grow : (∀ b, a = some b → ¬ b > l + 1) → (∀ v, u = some v → v > l) → Canon (joinGo (f, u) r) ∧ ∀ x, hasL (joinGo (f, u) r) x ↔ hasL ((f, some l) :: (a, u) :: r) x := fun h1 h2 => by
      have okf : Spn.ok (f, u) := fun x y ex ey => by
        dsimp only at ex ey; subst ex; subst ey
        have := h x l rfl rfl
        have := h2 y rfl
        omega
      obtain ⟨c, m⟩ := joinGo_ok okf hr' (ordf u)
      refine ⟨c, fun x => ?_⟩
      rw [m, hasL_cons, hasL_cons, hasL_cons, ← or_assoc, ← has_more h2 lo h1]
    have stay : ∀ v, u = some v → (∀ b, a = some b → ¬ b > l + 1) → ¬ v > l → Canon (joinGo (f, some l) r) ∧ ∀ x, hasL (joinGo (f, some l) r) x ↔ hasL ((f, some l) :: (a, u) :: r) x := fun v e h1 h2 => by
      subst e
      obtain ⟨c, m⟩ := joinGo_ok h hr' (ordf (some l))
      refine ⟨c, fun x => ?_⟩
      rw [m, hasL_cons, hasL_cons, hasL_cons, ← or_assoc, ← has_same hq h2 lo h1]
    match a, u, lo, hq, o3, grow, stay with
    | none, none, _, _, _, grow, _ => exact grow (fun b e => (by cases e)) (fun v e => (by cases e))
    | none, some u, _, _, _, grow, stay =>
      unfold joinGo
      split
      · rename_i g
        exact grow (fun b e => by cases e) (fun v e => by cases e; exact g)
      · rename_i g
        exact stay u rfl (fun b e => by cases e) g
    | some a, u, lo, hq, o3, grow, stay =>
      unfold joinGo
      split
      · rename_i g
        obtain ⟨c, m⟩ := joinGo_ok hq hr' o2
        have lows := joinGo_low (a := a) (c := (some a, u)) (r := r) ⟨a, rfl, Int.le_refl a⟩ fun q hq => by
          have := o3 q hq
          cases e : q.1 with
          | none => rw [e] at this; exact this.elim
          | some b => rw [e] at this; exact ⟨b, rfl, this⟩
        refine ⟨.cons h (fun q hq => ?_) c, fun x => ?_⟩
        · obtain ⟨b, e, hb⟩ := lows q hq
          exact ⟨l, b, rfl, e, by omega⟩
        · rw [hasL_cons, m, hasL_cons (p := (f, some l))]
      · rename_i g
        cases u with
        | none => exact grow (fun b e => by cases e; exact g) (fun v e => by cases e)
        | some u =>
          dsimp only
          split
          · rename_i g'
            exact grow (fun b e => by cases e; exact g) (fun v e => by cases e; exact g')
          · rename_i g'
            exact stay u rfl (fun b e => by cases e; exact g) g'
/-- the low end, where there is one -/
def lowV (p : Sx) : Int := p.1.getD 0
def ordered (s : List Sx) : List Sx := s.filter (fun p => p.1.isNone) ++ (s.filter (fun p => p.1.isSome)).mergeSort (fun p q => decide (lowV p ≤ lowV q))
def joined (s : List Sx) : List Sx := if s.length < 2 then s else match ordered s with
  | [] => []
  | c :: r => joinGo c r
theorem ordered_perm (s : List Sx) : (ordered s).Perm s := by
  unfold ordered
  refine ((List.Perm.refl _).append (List.mergeSort_perm _ _)).trans ?_
  have e : s.filter (fun p => p.1.isSome) = s.filter (fun p => !(p.1.isNone)) := by
    congr 1; funext p; cases p.1 <;> rfl
  rw [e]
  exact List.filter_append_perm (fun p : Sx => p.1.isNone) s
theorem ordered_ord (s : List Sx) : Ord (ordered s) := by
  unfold ordered Ord
  rw [List.pairwise_append]
  refine ⟨?_, ?_, ?_⟩
  · refine List.Pairwise.imp_of_mem (R := fun _ _ => True) (fun {p q} hp hq _ => ?_) (List.pairwise_of_forall fun _ _ => trivial)
    have := (List.mem_filter.mp hp).2
    cases e : p.1 with
    | none => trivial
    | some a => rw [e] at this; cases this
  · have h := List.pairwise_mergeSort (le := fun p q : Sx => decide (lowV p ≤ lowV q)) (fun a b c h1 h2 => by simp at *; omega) (fun a b => by simp; omega) (s.filter (fun p => p.1.isSome))
    refine h.imp_of_mem ?_
    intro p q hp hq h
    have p1 := (List.mem_filter.mp (List.mem_mergeSort.mp hp)).2
    have q1 := (List.mem_filter.mp (List.mem_mergeSort.mp hq)).2
    obtain ⟨a, pu⟩ := p
    obtain ⟨b, qu⟩ := q
    cases a with
    | none => trivial
    | some a =>
      cases b with
      | none => cases q1
      | some b => exact (of_decide_eq_true h : a ≤ b)
  · intro p hp q hq
    have := (List.mem_filter.mp hp).2
    cases e : p.1 with
    | none => trivial
    | some a => rw [e] at this; cases this
theorem joined_ok {s : List Sx} (h : ∀ p ∈ s, Spn.ok p) : Canon (joined s) ∧ ∀ x, hasL (joined s) x ↔ hasL s x := by
  unfold joined
  split
  · rename_i hl
    match s, hl, h with
    | [], _, _ => exact ⟨.nil, fun x => Iff.rfl⟩
    | [p], _, h => exact ⟨.one (h p List.mem_cons_self), fun x => Iff.rfl⟩
    | _ :: _ :: _, hl, _ => simp at hl; omega
  · have hp := ordered_perm s
    have ho := ordered_ord s
    have hok : ∀ p ∈ ordered s, Spn.ok p := fun p z => h p (hp.mem_iff.mp z)
    generalize ordered s = o at hp ho hok ⊢
    cases o with
    | nil => exact ⟨.nil, fun x => hasL_perm hp⟩
    | cons c r =>
      obtain ⟨cc, m⟩ := joinGo_ok (hok c List.mem_cons_self) (fun q hq => hok q (List.mem_cons_of_mem _ hq)) ho
      exact ⟨cc, fun x => (m x).trans (hasL_perm hp)⟩
theorem joinGo_len : ∀ (c : Sx) (r : List Sx), (joinGo c r).length ≤ r.length + 1
  | c, [] => by rw [joinGo]; simp
  | (f, none), _ :: _ => by rw [joinGo]; simp
  | (f, some l), (none, none) :: r => by rw [joinGo]; have := joinGo_len (f, none) r; simp; omega
  | (f, some l), (none, some u) :: r => by
    rw [joinGo]
    have h1 := joinGo_len (f, some u) r
    have h2 := joinGo_len (f, some l) r
    split <;> (simp only [List.length_cons]; omega)
  | (f, some l), (some a, u) :: r => by
    have h0 := joinGo_len (some a, u) r
    have h1 := joinGo_len (f, none) r
    have h2 := joinGo_len (f, some l) r
    conv => lhs; unfold joinGo
    split
    · simp only [List.length_cons]; omega
    · cases u with
      | none => simp only [List.length_cons]; omega
      | some u =>
        have h3 := joinGo_len (f, some u) r
        dsimp only
        split <;> (simp only [List.length_cons]; omega)
theorem joined_len (s : List Sx) : (joined s).length ≤ s.length := by
  unfold joined
  split
  · exact Nat.le_refl _
  · have hp := (ordered_perm s).length_eq
    cases e : ordered s with
    | nil => simp
    | cons c r =>
      rw [e] at hp
      have := joinGo_len c r
      simp at hp
      dsimp only
      omega
-- ---- what lies between
def betw (s : List Sx) : List Sx := (s.zip s.tail).map fun z => (z.1.2.map (· + 1), z.2.1.map (· - 1))
def below (s : List Sx) : List Sx := match s.head? with
  | some (some l, _) => [(none, some (l - 1))]
  | _ => []
def above (s : List Sx) : List Sx := match s.getLast? with
  | some (_, some h) => [(some (h + 1), none)]
  | _ => []
def gaps (s : List Sx) : List Sx := if s = [] then [(none, none)] else below s ++ betw s ++ above s
def gapsGo : Sx → List Sx → List Sx
  | p, [] => match p.2 with
    | none => []
    | some h => [(some (h + 1), none)]
  | p, q :: r => (p.2.map (· + 1), q.1.map (· - 1)) :: gapsGo q r
theorem gapsGo_eq : ∀ (p : Sx) (r : List Sx), gapsGo p r = betw (p :: r) ++ above (p :: r)
  | (a, none), [] => rfl
  | (a, some h), [] => rfl
  | p, q :: r => by
    unfold gapsGo
    rw [gapsGo_eq q r]
    have e : betw (p :: q :: r) = (p.2.map (· + 1), q.1.map (· - 1)) :: betw (q :: r) := rfl
    have e2 : above (p :: q :: r) = above (q :: r) := by
      unfold above
      rw [List.getLast?_cons_cons]
    rw [e, e2]
    rfl
theorem gapsGo_ok : ∀ {p : Sx} {r : List Sx}, Canon (p :: r) → Canon (gapsGo p r) ∧ (∀ q ∈ gapsGo p r, ∃ h l, p.2 = some h ∧ q.1 = some l ∧ h < l) ∧
    ∀ x, hasL (gapsGo p r) x ↔ (∃ h, p.2 = some h ∧ h < x) ∧ ¬ hasL r x
  | (a, none), [], c => by
    refine ⟨.nil, fun q hq => (by cases hq), fun x => ⟨fun h => absurd h (hasL_nil x), fun h => ?_⟩⟩
    obtain ⟨⟨b, e, _⟩, _⟩ := h
    cases e
  | (a, some h), [], c => by
    have e : gapsGo (a, some h) [] = [(some (h + 1), none)] := rfl
    rw [e]
    refine ⟨.one fun x y e1 e2 => (by cases e2), fun q hq => ?_, fun x => ?_⟩
    · rw [List.mem_singleton] at hq; subst hq
      exact ⟨h, h + 1, rfl, rfl, by omega⟩
    · rw [hasL_cons]
      constructor
      · rintro (z | z)
        · exact ⟨⟨h, rfl, by have := z.1 _ rfl; omega⟩, hasL_nil x⟩
        · exact absurd z (hasL_nil x)
      · rintro ⟨⟨b, e, hb⟩, _⟩
        cases e
        exact .inl ⟨fun y e => (by cases e; omega), fun y e => by cases e⟩
  | p, q :: r, c => by
    obtain ⟨h, l, e1, e2, hl⟩ := (List.pairwise_cons.mp c.sep).1 q List.mem_cons_self
    obtain ⟨cc, lows, m⟩ := gapsGo_ok c.tail
    have okq := c.ok q (List.mem_cons_of_mem _ List.mem_cons_self)
    have e : gapsGo p (q :: r) = (some (h + 1), some (l - 1)) :: gapsGo q r := by
      rw [gapsGo, e1, e2]; rfl
    rw [e]
    refine ⟨.cons (fun x y ex ey => by cases ex; cases ey; omega) (fun z hz => ?_) cc, fun z hz => ?_, fun x => ?_⟩
    · obtain ⟨h', l', g1, g2, g3⟩ := lows z hz
      have := okq l h' e2 g1
      exact ⟨l - 1, l', rfl, g2, by omega⟩
    · rcases List.mem_cons.mp hz with rfl | hz
      · exact ⟨h, h + 1, e1, rfl, by omega⟩
      · obtain ⟨h', l', g1, g2, g3⟩ := lows z hz
        have := okq l h' e2 g1
        exact ⟨h, l', e1, g2, by omega⟩
    · rw [hasL_cons, hasL_cons, m]
      constructor
      · rintro (z | ⟨⟨h', g1, g2⟩, z⟩)
        · have z1 := z.1 _ rfl
          have z2 := z.2 _ rfl
          refine ⟨⟨h, e1, by omega⟩, ?_⟩
          rintro (y | y)
          · have := y.1 l e2; omega
          · have := c.tail.low e2 (hasL_cons.mpr (.inr y)); omega
        · have := okq l h' e2 g1
          refine ⟨⟨h, e1, by omega⟩, ?_⟩
          rintro (y | y)
          · have := y.2 h' g1; omega
          · exact z y
      · rintro ⟨⟨h', g1, g2⟩, z⟩
        rw [e1] at g1; cases g1
        by_cases k : x < l
        · exact .inl ⟨fun y e => (by cases e; omega), fun y e => by cases e; omega⟩
        · refine .inr ⟨?_, fun y => z (.inr y)⟩
          cases hq : q.2 with
          | none => exact absurd (.inl ⟨fun y e => (by rw [e2] at e; cases e; omega), fun y e => by rw [hq] at e; cases e⟩) z
          | some u =>
            refine ⟨u, rfl, ?_⟩
            by_cases k2 : u < x
            · exact k2
            · exact absurd (.inl ⟨fun y e => (by rw [e2] at e; cases e; omega), fun y e => by rw [hq] at e; cases e; omega⟩) z
theorem gaps_ok {s : List Sx} (c : Canon s) : Canon (gaps s) ∧ ∀ x, hasL (gaps s) x ↔ ¬ hasL s x := by
  match s, c with
  | [], _ =>
    have e : gaps [] = [(none, none)] := rfl
    rw [e]
    refine ⟨.one fun x y e1 e2 => (by cases e1), fun x => ⟨fun _ => hasL_nil x, fun _ => ⟨_, List.mem_cons_self, fun y e => (by cases e), fun y e => by cases e⟩⟩⟩
  | p :: r, c =>
    obtain ⟨cc, lows, m⟩ := gapsGo_ok c
    have e : gaps (p :: r) = below (p :: r) ++ gapsGo p r := by
      unfold gaps
      rw [if_neg (by simp), List.append_assoc, gapsGo_eq]
    rw [e]
    obtain ⟨a, u⟩ := p
    cases a with
    | none =>
      have e : below ((none, u) :: r) = [] := rfl
      rw [e, List.nil_append]
      refine ⟨cc, fun x => ?_⟩
      rw [m, hasL_cons]
      constructor
      · rintro ⟨⟨h, e, hx⟩, z⟩
        rintro (y | y)
        · have := y.2 h e; omega
        · exact z y
      · intro z
        refine ⟨?_, fun y => z (.inr y)⟩
        cases u with
        | none => exact absurd (.inl ⟨fun y e => (by cases e), fun y e => by cases e⟩) z
        | some u =>
          refine ⟨u, rfl, ?_⟩
          by_cases k2 : u < x
          · exact k2
          · exact absurd (.inl ⟨fun y e => (by cases e), fun y e => by cases e; omega⟩) z
    | some a =>
      have e : below ((some a, u) :: r) = [(none, some (a - 1))] := rfl
      rw [e]
      have okp := c.ok _ List.mem_cons_self
      refine ⟨.cons (fun x y ex ey => by cases ex) (fun z hz => ?_) cc, fun x => ?_⟩
      · obtain ⟨h, l, g1, g2, g3⟩ := lows z hz
        have := okp a h rfl g1
        exact ⟨a - 1, l, rfl, g2, by omega⟩
      · rw [List.singleton_append, hasL_cons, m, hasL_cons]
        constructor
        · rintro (z | ⟨⟨h, e, hx⟩, z⟩)
          · have := z.2 _ rfl
            rintro (y | y)
            · have := y.1 a rfl; omega
            · have := c.low rfl (hasL_cons.mpr (.inr y)); omega
          · rintro (y | y)
            · have := y.2 h e; omega
            · exact z y
        · intro z
          by_cases k : x < a
          · exact .inl ⟨fun y e => (by cases e), fun y e => by cases e; omega⟩
          · refine .inr ⟨?_, fun y => z (.inr y)⟩
            cases u with
            | none => exact absurd (.inl ⟨fun y e => (by cases e; omega), fun y e => by cases e⟩) z
            | some u =>
              refine ⟨u, rfl, ?_⟩
              by_cases k2 : u < x
              · exact k2
              · exact absurd (.inl ⟨fun y e => (by cases e; omega), fun y e => by cases e; omega⟩) z
-- ---- what both have
def later : Option Int → Option Int → Option Int
  | none, b => b
  | some a, none => some a
  | some a, some b => some (if b > a then b else a)
def earlier : Option Int → Option Int → Bool
  | none, _ => false
  | some _, none => true
  | some a, some b => decide (a < b)
def stands : Sx → Bool
  | (some a, some b) => decide (a ≤ b)
  | _ => true
def met : List Sx → List Sx → List Sx
  | [], _ => []
  | _ :: _, [] => []
  | a :: s, b :: t =>
    if earlier a.2 b.2 = true then (if stands (later a.1 b.1, a.2) = true then [(later a.1 b.1, a.2)] else []) ++ met s (b :: t)
    else (if stands (later a.1 b.1, b.2) = true then [(later a.1 b.1, b.2)] else []) ++ met (a :: s) t
termination_by s t => s.length + t.length
theorem later_le {a b : Option Int} {x : Int} : (∀ l, later a b = some l → l ≤ x) ↔ (∀ l, a = some l → l ≤ x) ∧ (∀ l, b = some l → l ≤ x) := by
  cases a with
  | none => simp [later]
  | some a =>
    cases b with
    | none => simp [later]
    | some b =>
      simp only [later, Option.some.injEq, forall_eq']
      split <;> omega
theorem stands_iff {p : Sx} : stands p = true ↔ ok p := by
  obtain ⟨a, b⟩ := p
  cases a <;> cases b <;> simp [stands, ok]
theorem one_has {p : Sx} {x : Int} : hasL (if stands p = true then [p] else []) x ↔ has p x := by
  split
  · rw [hasL_cons]
    exact ⟨fun h => h.elim id fun h => absurd h (hasL_nil x), .inl⟩
  · rename_i h
    refine ⟨fun z => absurd z (hasL_nil x), fun z => absurd (stands_iff.mpr fun l u e1 e2 => ?_) h⟩
    have := z.1 l e1
    have := z.2 u e2
    omega
theorem met_low : ∀ {s t : List Sx} {q : Sx}, q ∈ met s t → ∃ a ∈ s, ∃ b ∈ t, q.1 = later a.1 b.1 ∧ ok q
  | [], t, q, h => by unfold met at h; cases h
  | a :: s, [], q, h => by unfold met at h; cases h
  | a :: s, b :: t, q, h => by
    unfold met at h
    split at h
    · rcases List.mem_append.mp h with h | h
      · split at h
        · rename_i k
          rw [List.mem_singleton] at h; subst h
          exact ⟨a, List.mem_cons_self, b, List.mem_cons_self, rfl, stands_iff.mp k⟩
        · cases h
      · obtain ⟨a', ha, b', hb, e⟩ := met_low h
        exact ⟨a', List.mem_cons_of_mem _ ha, b', hb, e⟩
    · rcases List.mem_append.mp h with h | h
      · split at h
        · rename_i k
          rw [List.mem_singleton] at h; subst h
          exact ⟨a, List.mem_cons_self, b, List.mem_cons_self, rfl, stands_iff.mp k⟩
        · cases h
      · obtain ⟨a', ha, b', hb, e⟩ := met_low h
        exact ⟨a', ha, b', List.mem_cons_of_mem _ hb, e⟩
termination_by s t => s.length + t.length
theorem later_ge {a b : Option Int} {l : Int} (h : later a b = some l) : (∀ x, a = some x → x ≤ l) ∧ (∀ x, b = some x → x ≤ l) := later_le.mp fun y e => by rw [h] at e; cases e; exact Int.le_refl _
theorem later_none {a b : Option Int} (h : later a b = none) : a = none ∧ b = none := by
  cases a <;> cases b <;> simp_all [later]
theorem cons_canon {p : Sx} {s : List Sx} (h : ∀ q ∈ s, Sep p q) (c : Canon s) : Canon ((if stands p = true then [p] else []) ++ s) := by
  split
  · rename_i k
    exact .cons (stands_iff.mp k) h c
  · exact c
theorem met_ok : ∀ {s t : List Sx}, Canon s → Canon t → Canon (met s t) ∧ ∀ x, hasL (met s t) x ↔ hasL s x ∧ hasL t x
  | [], t, _, _ => by
    have e : met [] t = [] := by unfold met; rfl
    rw [e]
    exact ⟨.nil, fun x => ⟨fun h => absurd h (hasL_nil x), fun h => absurd h.1 (hasL_nil x)⟩⟩
  | a :: s, [], _, _ => by
    have e : met (a :: s) [] = [] := by unfold met; rfl
    rw [e]
    exact ⟨.nil, fun x => ⟨fun h => absurd h (hasL_nil x), fun h => absurd h.2 (hasL_nil x)⟩⟩
  | a :: s, b :: t, c, d => by
    unfold met
    split
    · rename_i k
      obtain ⟨cc, m⟩ := met_ok c.tail d
      obtain ⟨h, eh⟩ : ∃ h, a.2 = some h := by
        cases e : a.2 with
        | none => rw [e] at k; cases k
        | some h => exact ⟨h, rfl⟩
      have kb : ∀ u, b.2 = some u → h < u := fun u e => by rw [eh, e] at k; exact of_decide_eq_true k
      refine ⟨cons_canon (fun q hq => ?_) cc, fun x => ?_⟩
      · obtain ⟨a', ha, b', hb, e, o⟩ := met_low hq
        obtain ⟨h', l, e1, e2, e3⟩ := (List.pairwise_cons.mp c.sep).1 a' ha
        rw [eh] at e1; cases e1
        cases e4 : q.1 with
        | none => rw [e4] at e; rw [(later_none e.symm).1] at e2; cases e2
        | some m =>
          have := (later_ge (e.symm.trans e4)).1 l e2
          exact ⟨h, m, eh, e4, by omega⟩
      · rw [hasL_append, one_has, m, hasL_cons (p := a), hasL_cons (p := b)]
        have l : has (later a.1 b.1, a.2) x ↔ has a x ∧ (has b x ∨ hasL t x) := by
          constructor
          · intro z
            have z1 := later_le.mp z.1
            have zh := z.2 h eh
            exact ⟨⟨z1.1, z.2⟩, .inl ⟨z1.2, fun u e => by have := kb u e; omega⟩⟩
          · rintro ⟨z, y | y⟩
            · exact ⟨later_le.mpr ⟨z.1, y.1⟩, z.2⟩
            · obtain ⟨q, hq, y⟩ := y
              obtain ⟨u, l, e1, e2, e3⟩ := (List.pairwise_cons.mp d.sep).1 q hq
              have := y.1 l e2
              have := z.2 h eh
              have := kb u e1
              omega
        rw [l]
        constructor
        · rintro (⟨z, y⟩ | ⟨z, y⟩)
          · exact ⟨.inl z, y⟩
          · exact ⟨.inr z, y⟩
        · rintro ⟨z | z, y⟩
          · exact .inl ⟨z, y⟩
          · exact .inr ⟨z, y⟩
    · rename_i k
      obtain ⟨cc, m⟩ := met_ok c d.tail
      have kb : ∀ u, b.2 = some u → ∀ h, a.2 = some h → u ≤ h := fun u e h e' => by
        rw [e', e] at k
        simp only [earlier, decide_eq_true_eq] at k
        omega
      have kn : b.2 = none → a.2 = none := fun e => by
        cases e' : a.2 with
        | none => rfl
        | some h => rw [e', e] at k; exact absurd rfl k
      refine ⟨cons_canon (fun q hq => ?_) cc, fun x => ?_⟩
      · obtain ⟨a', ha, b', hb, e, o⟩ := met_low hq
        obtain ⟨h', l, e1, e2, e3⟩ := (List.pairwise_cons.mp d.sep).1 b' hb
        cases e4 : q.1 with
        | none => rw [e4] at e; rw [(later_none e.symm).2] at e2; cases e2
        | some m =>
          have := (later_ge (e.symm.trans e4)).2 l e2
          exact ⟨h', m, e1, e4, by omega⟩
      · rw [hasL_append, one_has, m, hasL_cons (p := a), hasL_cons (p := b)]
        have l : has (later a.1 b.1, b.2) x ↔ (has a x ∨ hasL s x) ∧ has b x := by
          constructor
          · intro z
            have z1 := later_le.mp z.1
            refine ⟨.inl ⟨z1.1, fun u e => ?_⟩, ⟨z1.2, z.2⟩⟩
            cases e' : b.2 with
            | none => rw [kn e'] at e; cases e
            | some v => have := z.2 v e'; have := kb v e' u e; omega
          · rintro ⟨y | y, z⟩
            · exact ⟨later_le.mpr ⟨y.1, z.1⟩, z.2⟩
            · obtain ⟨q, hq, y⟩ := y
              obtain ⟨u, l, e1, e2, e3⟩ := (List.pairwise_cons.mp c.sep).1 q hq
              have := y.1 l e2
              cases e' : b.2 with
              | none => rw [kn e'] at e1; cases e1
              | some v => have := z.2 v e'; have := kb v e' u e1; omega
        rw [l]
        constructor
        · rintro (⟨z, y⟩ | ⟨z, y⟩)
          · exact ⟨z, .inl y⟩
          · exact ⟨z, .inr y⟩
        · rintro ⟨z, y | y⟩
          · exact .inl ⟨z, y⟩
          · exact .inr ⟨z, y⟩
termination_by s t => s.length + t.length
theorem met_cons (a b : Sx) (s t : List Sx) : met (a :: s) (b :: t) =
    if earlier a.2 b.2 = true then (if stands (later a.1 b.1, a.2) = true then [(later a.1 b.1, a.2)] else []) ++ met s (b :: t)
    else (if stands (later a.1 b.1, b.2) = true then [(later a.1 b.1, b.2)] else []) ++ met (a :: s) t := by
  conv => lhs; unfold met
theorem met_nil (t : List Sx) : met [] t = [] := by unfold met; rfl
theorem met_nil' (s : List Sx) : met s [] = [] := by cases s <;> (unfold met; rfl)
theorem met_len : ∀ (s t : List Sx), (met s t).length ≤ s.length + t.length
  | [], t => by rw [met_nil]; simp
  | a :: s, [] => by rw [met_nil']; simp
  | a :: s, b :: t => by
    rw [met_cons]
    have h1 := met_len s (b :: t)
    have h2 := met_len (a :: s) t
    simp only [List.length_cons] at h1 h2 ⊢
    split
    · split <;> (simp only [List.length_append, List.length_cons, List.length_nil]; omega)
    · split <;> (simp only [List.length_append, List.length_cons, List.length_nil]; omega)
termination_by s t => s.length + t.length
theorem gaps_len (s : List Sx) : (gaps s).length ≤ s.length + 1 := by
  unfold gaps
  split
  · simp
  · rename_i h
    have h1 : (below s).length ≤ 1 := by unfold below; split <;> simp
    have h2 : (above s).length ≤ 1 := by unfold above; split <;> simp
    have h3 : (betw s).length = s.length - 1 := by unfold betw; rw [List.length_map, List.length_zip, List.length_tail]; omega
    have h4 : 0 < s.length := by cases s with | nil => exact absurd rfl h | cons _ _ => simp
    simp only [List.length_append]
    omega
-- ---- x in it, by the first stretch that does not end below x
def leO (l : Option Int) (x : Int) : Bool := match l with
  | none => true
  | some l => decide (l ≤ x)
def geO (h : Option Int) (x : Int) : Bool := match h with
  | none => true
  | some h => decide (x ≤ h)
theorem leO_iff {l : Option Int} {x : Int} : leO l x = true ↔ ∀ a, l = some a → a ≤ x := by cases l <;> simp [leO]
theorem geO_iff {l : Option Int} {x : Int} : geO l x = true ↔ ∀ a, l = some a → x ≤ a := by cases l <;> simp [geO]
def holds : List Sx → Int → Bool
  | [], _ => false
  | (l, h) :: r, x => if geO h x = true then leO l x else holds r x
theorem holds_iff : ∀ {s : List Sx} {x : Int}, Canon s → (holds s x = true ↔ hasL s x)
  | [], x, _ => ⟨fun h => (by cases h), fun h => absurd h (hasL_nil x)⟩
  | (l, h) :: r, x, c => by
    unfold holds
    rw [hasL_cons]
    split
    · rename_i k
      have hk := geO_iff.mp k
      rw [leO_iff]
      constructor
      · intro z; exact .inl ⟨z, hk⟩
      · rintro (z | ⟨q, hq, z⟩)
        · exact z.1
        · obtain ⟨u, a, e1, e2, e3⟩ := (List.pairwise_cons.mp c.sep).1 q hq
          have := z.1 a e2
          have := hk u e1
          intro b e
          have := c.ok _ List.mem_cons_self b u e e1
          dsimp only at *
          omega
    · rename_i k
      rw [holds_iff c.tail]
      constructor
      · exact .inr
      · rintro (z | z)
        · exact absurd (geO_iff.mpr z.2) k
        · exact z
-- ---- the laws' own words
def lies (s : List Sx) (i : Int) : Bool := s.any fun p => leO p.1 i && geO p.2 i
theorem lies_iff {s : List Sx} {i : Int} : lies s i = true ↔ hasL s i := by
  unfold lies hasL has
  rw [List.any_eq_true]
  constructor
  · rintro ⟨p, hp, h⟩
    rw [Bool.and_eq_true, leO_iff, geO_iff] at h
    exact ⟨p, hp, h⟩
  · rintro ⟨p, hp, h⟩
    refine ⟨p, hp, ?_⟩
    rw [Bool.and_eq_true, leO_iff, geO_iff]
    exact h
theorem lies_false {s : List Sx} {i : Int} : lies s i = false ↔ ¬ hasL s i := by
  rw [← lies_iff]; simp
def e3 : Option Int → List Int
  | none => []
  | some x => [x - 1, x, x + 1]
def e6 (p : Sx) : List Int := e3 p.1 ++ e3 p.2
def endsOf (s : List Sx) : List Int := [-(10 ^ 59), -1, 0, 1, 10 ^ 59] ++ s.flatMap e6
def Bnd (s : List Sx) : Prop := ∀ p ∈ s, (∀ l, p.1 = some l → -(10 ^ 50) ≤ l ∧ l ≤ 10 ^ 50) ∧ (∀ h, p.2 = some h → -(10 ^ 50) ≤ h ∧ h ≤ 10 ^ 50)
theorem edge {S : Int → Prop} : ∀ (k : Nat) (x w : Int), (x - w).toNat = k → w < x → S x → ¬ S w → ∃ z, S z ∧ ¬ S (z - 1)
  | 0, x, w, e, h, _, _ => by omega
  | k + 1, x, w, e, h, hx, hw => by
    by_cases g : S (x - 1)
    · have ne : w ≠ x - 1 := fun z => by subst z; exact hw g
      exact edge k (x - 1) w (by omega) (by omega) g hw
    · exact ⟨x, hx, g⟩
theorem mem_e3 {x : Int} {o : Option Int} (h : o = some x) : x ∈ e3 o ∧ x + 1 ∈ e3 o := by subst h; simp [e3]
theorem mem_ends {s : List Sx} {p : Sx} {x : Int} (hp : p ∈ s) (h : x ∈ e3 p.1 ∨ x ∈ e3 p.2) : x ∈ endsOf s := by
  unfold endsOf
  refine List.mem_append_right _ (List.mem_flatMap.mpr ⟨p, hp, List.mem_append.mpr h⟩)
theorem ends_len : ∀ (s : List Sx) (m : Nat), ((s.take m).flatMap e6).length ≤ 6 * s.length
  | [], m => by simp
  | p :: s, 0 => by simp
  | p :: s, m + 1 => by
    have h := ends_len s m
    have h1 : ∀ o : Option Int, (e3 o).length ≤ 3 := fun o => by cases o <;> simp [e3]
    have := h1 p.1
    have := h1 p.2
    simp only [List.take_succ_cons, List.flatMap_cons, List.length_append, List.length_cons, e6] at *
    omega
/-- what is in s and not in r is so at some end -/
theorem witness {s r : List Sx} (bs : Bnd s) (br : Bnd r) {x : Int} (h1 : hasL s x) (h2 : ¬ hasL r x) : ∃ n ∈ endsOf (s ++ r), hasL s n ∧ ¬ hasL r n := by
  by_cases h : ∃ w, w < x ∧ ¬ (hasL s w ∧ ¬ hasL r w)
  · obtain ⟨w, hw, h⟩ := h
    obtain ⟨z, ⟨hz1, hz2⟩, hz⟩ := edge (S := fun i => hasL s i ∧ ¬ hasL r i) _ x w rfl hw ⟨h1, h2⟩ h
    refine ⟨z, ?_, hz1, hz2⟩
    by_cases g : hasL s (z - 1)
    · have g2 : hasL r (z - 1) := Classical.byContradiction fun n => hz ⟨g, n⟩
      obtain ⟨q, hq, y⟩ := g2
      have : ∃ u, q.2 = some u ∧ z = u + 1 := by
        cases e : q.2 with
        | none => exact absurd ⟨q, hq, fun l el => (by have := y.1 l el; omega), fun u eu => by rw [e] at eu; cases eu⟩ hz2
        | some u =>
          refine ⟨u, rfl, ?_⟩
          have := y.2 u e
          by_cases k : z ≤ u
          · exact absurd ⟨q, hq, fun l el => (by have := y.1 l el; omega), fun u' eu => by rw [e] at eu; cases eu; exact k⟩ hz2
          · omega
      obtain ⟨u, eu, rfl⟩ := this
      exact mem_ends (List.mem_append_right _ hq) (.inr (mem_e3 eu).2)
    · obtain ⟨p, hp, y⟩ := hz1
      have : p.1 = some z := by
        cases e : p.1 with
        | none => exact absurd ⟨p, hp, fun l el => (by rw [e] at el; cases el), fun u eu => by have := y.2 u eu; omega⟩ g
        | some l =>
          have := y.1 l e
          by_cases k : l ≤ z - 1
          · exact absurd ⟨p, hp, fun l' el => (by rw [e] at el; cases el; exact k), fun u eu => by have := y.2 u eu; omega⟩ g
          · congr 1; omega
      exact mem_ends (List.mem_append_left _ hp) (.inl (mem_e3 this).1)
  · have all : ∀ w, w < x → hasL s w ∧ ¬ hasL r w := fun w hw => Classical.byContradiction fun n => h ⟨w, hw, n⟩
    refine ⟨-(10 ^ 59), by unfold endsOf; simp, ?_⟩
    by_cases hx : -(10 ^ 59) < x
    · exact all _ hx
    · obtain ⟨p, hp, y⟩ := h1
      obtain ⟨b1, b2⟩ := bs p hp
      refine ⟨⟨p, hp, fun l el => (by have := b1 l el; have := y.1 l el; omega), fun u eu => by have := b2 u eu; omega⟩, ?_⟩
      rintro ⟨q, hq, z⟩
      obtain ⟨c1, c2⟩ := br q hq
      exact h2 ⟨q, hq, fun l el => (by have := c1 l el; have := z.1 l el; omega), fun u eu => by have := c2 u eu; omega⟩
theorem canon_apart : ∀ {r : List Sx}, Canon r → ∀ {p q : Sx}, p ∈ r → q ∈ r → p = q ∨ Sep p q ∨ Sep q p
  | [], _, p, q, h, _ => by cases h
  | a :: r, c, p, q, hp, hq => by
    obtain ⟨h1, h2⟩ := List.pairwise_cons.mp c.sep
    rcases List.mem_cons.mp hp with e | hp'
    · rcases List.mem_cons.mp hq with e' | hq'
      · exact .inl (e.trans e'.symm)
      · subst e; exact .inr (.inl (h1 q hq'))
    · rcases List.mem_cons.mp hq with e' | hq'
      · subst e'; exact .inr (.inr (h1 p hp'))
      · exact canon_apart c.tail hp' hq'
theorem canon_low {r : List Sx} (c : Canon r) {p : Sx} {l : Int} (hp : p ∈ r) (e : p.1 = some l) : hasL r l ∧ ¬ hasL r (l - 1) := by
  have ok := c.ok p hp
  refine ⟨⟨p, hp, fun a ea => (by rw [e] at ea; cases ea; omega), fun u eu => ok l u e eu⟩, ?_⟩
  rintro ⟨q, hq, y⟩
  rcases canon_apart c hp hq with rfl | ⟨u, a, e1, e2, e3⟩ | ⟨u, a, e1, e2, e3⟩
  · have := y.1 l e; omega
  · have := y.1 a e2; have := ok l u e e1; omega
  · rw [e] at e2; cases e2
    have := y.2 u e1; omega
theorem canon_high {r : List Sx} (c : Canon r) {p : Sx} {u : Int} (hp : p ∈ r) (e : p.2 = some u) : hasL r u ∧ ¬ hasL r (u + 1) := by
  have ok := c.ok p hp
  refine ⟨⟨p, hp, fun l el => ok l u el e, fun a ea => by rw [e] at ea; cases ea; omega⟩, ?_⟩
  rintro ⟨q, hq, y⟩
  rcases canon_apart c hp hq with rfl | ⟨v, a, e1, e2, e3⟩ | ⟨v, a, e1, e2, e3⟩
  · have := y.2 u e; omega
  · rw [e] at e1; cases e1
    have := y.1 a e2; omega
  · have := y.2 v e1; have := ok a u e2 e; omega
theorem canon_next {r : List Sx} (c : Canon r) {i : Nat} {p q : Sx} (hp : r[i]? = some p) (hq : r[i + 1]? = some q) : Sep p q := by
  obtain ⟨h1, e1⟩ := List.getElem?_eq_some_iff.mp hp
  obtain ⟨h2, e2⟩ := List.getElem?_eq_some_iff.mp hq
  have := List.pairwise_iff_getElem.mp c.sep i (i + 1) h1 h2 (by omega)
  rw [e1, e2] at this
  exact this
theorem canon_nil {r : List Sx} (c : Canon r) : r = [] ↔ ∀ i, ¬ hasL r i := by
  constructor
  · rintro rfl i; exact hasL_nil i
  · intro h
    exact canon_eq c .nil fun x => ⟨fun z => absurd z (h x), fun z => absurd z (hasL_nil x)⟩
end Spn
end Gx


set_option Elab.async false
set_option linter.all false
set_option maxRecDepth 100000
set_option maxHeartbeats 4000000
/-! repr of data with dicts in it: only a dict's own place has to be no table of modules. -/
namespace Gx
open PySem PySem.Spec PyProof.Rows L2 Evl
mutual
inductive Rs (h : Heap) : Value → PyData → Prop
  | none : Rs h .none .none
  | bool (b) : Rs h (.bool b) (.bool b)
  | int (i t) : Rs h (.int i t) (.int i)
  | str (x t) : Rs h (.str x t) (.str x)
  | list {a o vs n ds} (e : h.get? a = some o) (c : o.cls = .type "list") (q : o.data = .seq vs n) (m : RsAll h vs.toList ds) : Rs h (.ref a) (.list ds)
  | tuple {a o vs n ds} (e : h.get? a = some o) (c : o.cls = .type "tuple") (q : o.data = .seq vs n) (m : RsAll h vs.toList ds) : Rs h (.ref a) (.tuple ds)
  | dict {a o es n ps} (y : (a == sysModules) = false) (e : h.get? a = some o) (c : o.cls = .type "dict") (q : o.data = .dict es n)
      (m : RsAll h (es.toList.map (·.key)) (ps.map (·.1))) (m2 : RsAll h (es.toList.map (·.val)) (ps.map (·.2))) : Rs h (.ref a) (.dict ps)
inductive RsAll (h : Heap) : List Value → List PyData → Prop
  | nil : RsAll h [] []
  | cons {v vs d ds} : Rs h v d → RsAll h vs ds → RsAll h (v :: vs) (d :: ds)
end
mutual
theorem Rs.read {h : Heap} : ∀ {v : Value} {d : PyData}, Rs h v d → ∃ as, Reads h v d as
  | _, _, .none => ⟨_, Reads.none⟩
  | _, _, .bool b => ⟨_, Reads.bool b⟩
  | _, _, .int i t => ⟨_, Reads.int i t⟩
  | _, _, .str x t => ⟨_, Reads.str x t⟩
  | _, _, .list e c q m => let ⟨_, z⟩ := RsAll.read m; ⟨_, Reads.list e c q z⟩
  | _, _, .tuple e c q m => let ⟨_, z⟩ := RsAll.read m; ⟨_, Reads.tuple e c q z⟩
  | _, _, .dict _ e c q m m2 => let ⟨_, z⟩ := RsAll.read m; let ⟨_, z2⟩ := RsAll.read m2; ⟨_, Reads.dict e c q z z2⟩
theorem RsAll.read {h : Heap} : ∀ {vs : List Value} {ds : List PyData}, RsAll h vs ds → ∃ as, ReadsAll h vs ds as
  | _, _, .nil => ⟨_, ReadsAll.nil⟩
  | _, _, .cons r m => let ⟨_, z⟩ := Rs.read r; let ⟨_, z2⟩ := RsAll.read m; ⟨_, ReadsAll.cons z z2⟩
end
section
variable {prog : Program} {w : World} {h : Heap}
/-- what a thing at a depth tells of the places within it -/
abbrev Sh (prog : Program) (w : World) (h : Heap) (n : Nat) (v : Value) (t : Str) : Prop := ∃ bs, ReadAtMost h n bs ∧ ReprK prog w bs h n v t
abbrev ShAll (prog : Program) (w : World) (h : Heap) (n : Nat) (vs : List Value) (ts : List Str) : Prop := ∃ bs, ReadAtMost h n bs ∧ ReprAllK prog w bs h n vs ts
theorem atMost_mono {n m : Nat} {bs : List Addr} (z : ReadAtMost h n bs) (l : n ≤ m) : ReadAtMost h m bs := fun b hb =>
  let ⟨d, as, r, q⟩ := z b hb
  ⟨d, as, r, Nat.le_trans q l⟩
mutual
theorem Rs.sh : ∀ {v : Value} {d : PyData}, Rs h v d → d.showable = true → d.shown.length ≤ sizeLine → Sh prog w h d.depth v d.shown
  | _, _, .none, _, _ => ⟨[], (fun _ z => nomatch z), by simp only [PyData.shown]; exact ReprK.of_is ReprIs.none _ _ _⟩
  | _, _, .bool b, _, _ => ⟨[], (fun _ z => nomatch z), by simp only [PyData.shown]; exact ReprK.of_is (ReprIs.bool b) _ _ _⟩
  | _, _, .int i t, s, _ => ⟨[], (fun _ z => nomatch z), by simp only [PyData.shown]; exact ReprK.of_is (ReprIs.int t (by simpa [PyData.showable] using s)) _ _ _⟩
  | _, _, .str x t, _, l => ⟨[], (fun _ z => nomatch z), by simp only [PyData.shown]; exact ReprK.of_is (ReprIs.str x t (by simpa only [PyData.shown] using l)) _ _ _⟩
  | _, _, .list (a := a) (vs := vs) (ds := ds) e c q m, s, l => by
    have lt : (listText (PyData.shownAll ds)).length ≤ sizeLine := by simpa only [PyData.shown] using l
    obtain ⟨bs, z, k⟩ := RsAll.sh m (by simpa [PyData.showable] using s) (fun t ht => Nat.le_trans (listText_mem_le ht) lt)
    obtain ⟨as, r⟩ := (Rs.list e c q m).read
    have far : a ∉ bs := not_mem_of_deeper r (by simp only [PyData.depth]; exact Nat.lt_succ_self _) z
    refine ⟨a :: bs, ReadAtMost.cons r (by simp only [PyData.depth]; omega) z, ?_⟩
    simp only [PyData.shown, PyData.depth]
    rcases vs with ⟨_ | ⟨x, us⟩⟩
    · have m' : RsAll h [] ds := m
      cases m'
      simp only [listText_nil, PyData.shownAll]
      exact ReprK.listEmpty e c q
    · exact ReprK.list e c q far (by simpa using k.length_eq) (fun i y g => k.item i y (by simpa using g))
  | _, _, .tuple (a := a) (ds := ds) e c q m, s, l => by
    have lt : (tupleText (PyData.shownAll ds)).length ≤ sizeLine := by simpa only [PyData.shown] using l
    obtain ⟨bs, z, k⟩ := RsAll.sh m (by simpa [PyData.showable] using s) (fun t ht => Nat.le_trans (tupleText_mem_le ht) lt)
    obtain ⟨as, r⟩ := (Rs.tuple e c q m).read
    have far : a ∉ bs := not_mem_of_deeper r (by simp only [PyData.depth]; exact Nat.lt_succ_self _) z
    refine ⟨a :: bs, ReadAtMost.cons r (by simp only [PyData.depth]; omega) z, ?_⟩
    simp only [PyData.shown, PyData.depth]
    exact ReprK.tuple e c q far k
  | _, _, .dict (a := a) (es := es) (ps := ps) y e c q m m2, s, l => by
    have lt : (dictText (PyData.shownKv ps)).length ≤ sizeLine := by simpa only [PyData.shown] using l
    obtain ⟨s1, s2⟩ := PyData.showableKv_split ps (by simpa [PyData.showable] using s)
    obtain ⟨b1, z1, k1⟩ := RsAll.sh m s1 (fun t ht => let ⟨_, g1, g2⟩ := PyData.shownKv_key_le ps t ht; Nat.le_trans g2 (Nat.le_trans (dictText_mem_le g1) lt))
    obtain ⟨b2, z2, k2⟩ := RsAll.sh m2 s2 (fun t ht => let ⟨_, g1, g2⟩ := PyData.shownKv_val_le ps t ht; Nat.le_trans g2 (Nat.le_trans (dictText_mem_le g1) lt))
    obtain ⟨as, r⟩ := (Rs.dict y e c q m m2).read
    have z : ReadAtMost h (PyData.depthKv ps) (b1 ++ b2) := (atMost_mono z1 (PyData.depthAll_keys_le ps)).append (atMost_mono z2 (PyData.depthAll_vals_le ps))
    have far : a ∉ b1 ++ b2 := not_mem_of_deeper r (by simp only [PyData.depth]; exact Nat.lt_succ_self _) z
    refine ⟨a :: (b1 ++ b2), ReadAtMost.cons r (by simp only [PyData.depth]; omega) z, ?_⟩
    simp only [PyData.shownKv_eq, PyData.shown, PyData.depth]
    exact ReprK.dict e c q y far (ReprEntriesK.of_two es.toList _ _ (k1.more_le (fun b g => List.mem_append_left _ g) (PyData.depthAll_keys_le ps))
      (k2.more_le (fun b g => List.mem_append_right _ g) (PyData.depthAll_vals_le ps)))
theorem RsAll.sh : ∀ {vs : List Value} {ds : List PyData}, RsAll h vs ds → PyData.showableAll ds = true → (∀ t ∈ PyData.shownAll ds, t.length ≤ sizeLine) →
    ShAll prog w h (PyData.depthAll ds) vs (PyData.shownAll ds)
  | _, _, .nil, _, _ => ⟨[], (fun _ z => nomatch z), by simp only [PyData.shownAll]; exact ReprAllK.nil⟩
  | _, _, .cons (d := d) (ds := ds) r m, s, l => by
    have s' : d.showable = true ∧ PyData.showableAll ds = true := by simpa [PyData.showableAll] using s
    obtain ⟨b1, z1, k1⟩ := Rs.sh r s'.1 (l _ (by simp only [PyData.shownAll]; exact List.mem_cons_self))
    obtain ⟨b2, z2, k2⟩ := RsAll.sh m s'.2 (fun t ht => l t (by simp only [PyData.shownAll]; exact List.mem_cons_of_mem _ ht))
    refine ⟨b1 ++ b2, ?_, ?_⟩
    · simp only [PyData.depthAll]
      exact (atMost_mono z1 (Nat.le_max_left _ _)).append (atMost_mono z2 (Nat.le_max_right _ _))
    · simp only [PyData.shownAll, PyData.depthAll]
      exact ReprAllK.cons ((k1.more fun b g => List.mem_append_left _ g).level_le (Nat.le_max_left _ _)) (k2.more_le (fun b g => List.mem_append_right _ g) (Nat.le_max_right _ _))
end
/-- the whole thing, asked by repr -/
theorem Rs.by {a : Addr} {d : PyData} (r : Rs h (.ref a) d) (s : d.showable = true) (l : d.shown.length ≤ sizeLine) :
    ∃ T idr, ShowsBy prog w h a d T idr := by
  cases r with
  | list e c q m =>
    rename_i o vs n ds
    have lt : (listText (PyData.shownAll ds)).length ≤ sizeLine := by simpa only [PyData.shown] using l
    obtain ⟨bs, z, k⟩ := RsAll.sh (prog := prog) (w := w) m (by simpa [PyData.showable] using s) (fun t ht => Nat.le_trans (listText_mem_le ht) lt)
    obtain ⟨as, r⟩ := (Rs.list e c q m).read
    have far : a ∉ bs := not_mem_of_deeper r (by simp only [PyData.depth]; exact Nat.lt_succ_self _) z
    refine ⟨_, _, F.slot_list_repr.toG, F.slot_list_str, F.slot_list_format, fun s' kp => ⟨o, kp _ _ e, c⟩, fun A E s' Q g u kp k' => ?_⟩
    simp only [PyData.depth] at u
    simp only [PyData.shown] at k'
    rcases vs with ⟨_ | ⟨x, us⟩⟩
    · have m' : RsAll h [] ds := m
      cases m'
      simp only [listText_nil, PyData.shownAll] at k'
      exact call_list_repr_empty ⟨o, kp _ _ e, c⟩ (kp _ _ e) q (k' s'.heap _ _ fun _ _ g => g)
    · exact call_list_reprK e c q far (by simpa using k.length_eq) (fun i y g => k.item i y (by simpa using g)) g (fun b _ => Clear.nil b) u kp k' lt
  | tuple e c q m =>
    rename_i o vs n ds
    have lt : (tupleText (PyData.shownAll ds)).length ≤ sizeLine := by simpa only [PyData.shown] using l
    obtain ⟨bs, z, k⟩ := RsAll.sh (prog := prog) (w := w) m (by simpa [PyData.showable] using s) (fun t ht => Nat.le_trans (tupleText_mem_le ht) lt)
    obtain ⟨as, r⟩ := (Rs.tuple e c q m).read
    have far : a ∉ bs := not_mem_of_deeper r (by simp only [PyData.depth]; exact Nat.lt_succ_self _) z
    refine ⟨_, _, F.slot_tuple_repr, F.slot_tuple_str, F.slot_tuple_format, fun s' kp => ⟨o, kp _ _ e, c⟩, fun A E s' Q g u kp k' => ?_⟩
    simp only [PyData.depth] at u
    simp only [PyData.shown] at k'
    exact call_tuple_reprK e c q far k g (fun b _ => Clear.nil b) u kp k' lt
  | dict y e c q m m2 =>
    rename_i o es n ps
    have lt : (dictText (PyData.shownKv ps)).length ≤ sizeLine := by simpa only [PyData.shown] using l
    obtain ⟨s1, s2⟩ := PyData.showableKv_split ps (by simpa [PyData.showable] using s)
    obtain ⟨b1, z1, k1⟩ := RsAll.sh (prog := prog) (w := w) m s1 (fun t ht => let ⟨_, g1, g2⟩ := PyData.shownKv_key_le ps t ht; Nat.le_trans g2 (Nat.le_trans (dictText_mem_le g1) lt))
    obtain ⟨b2, z2, k2⟩ := RsAll.sh (prog := prog) (w := w) m2 s2 (fun t ht => let ⟨_, g1, g2⟩ := PyData.shownKv_val_le ps t ht; Nat.le_trans g2 (Nat.le_trans (dictText_mem_le g1) lt))
    obtain ⟨as, r⟩ := (Rs.dict y e c q m m2).read
    have z : ReadAtMost h (PyData.depthKv ps) (b1 ++ b2) := (atMost_mono z1 (PyData.depthAll_keys_le ps)).append (atMost_mono z2 (PyData.depthAll_vals_le ps))
    have far : a ∉ b1 ++ b2 := not_mem_of_deeper r (by simp only [PyData.depth]; exact Nat.lt_succ_self _) z
    refine ⟨_, _, F.slot_dict_repr, F.slot_dict_str, F.slot_dict_format, fun s' kp => ⟨o, kp _ _ e, c⟩, fun A E s' Q g u kp k' => ?_⟩
    simp only [PyData.depth] at u
    simp only [PyData.shown, PyData.shownKv_eq] at k'
    exact call_dict_reprK e c q y far (ReprEntriesK.of_two es.toList _ _ (k1.more_le (fun b g => List.mem_append_left _ g) (PyData.depthAll_keys_le ps))
      (k2.more_le (fun b g => List.mem_append_right _ g) (PyData.depthAll_vals_le ps))) g (fun b _ => Clear.nil b) u kp k' (by rw [← PyData.shownKv_eq]; exact lt)
end
/-! Data in the told heap, dicts with keys of ints and texts among it. -/
def kD : Key → PyData
  | .inl i => .int i
  | .inr x => .str x
mutual
inductive Dq (K : PySem.W.Frag) (H : Hp) : V → PyData → Prop
  | non : Dq K H .non .none
  | bl (b : Bool) : Dq K H (.bl b) (.bool b)
  | int (i : Int) : Dq K H (.int i) (.int i)
  | str (x : Str) : Dq K H (.str x) (.str x)
  | lst {a : Addr} {xs : List V} {ds : List PyData} : SqL K H a xs → DqAll K H xs ds → Dq K H (.ref a) (.list ds)
  | tup {a : Addr} {xs : List V} {ds : List PyData} : SqT K H a xs → DqAll K H xs ds → Dq K H (.ref a) (.tuple ds)
  | dct {a : Addr} {kvs : List (Key × V)} {ps : List (PyData × PyData)} : H a = some (.dK kvs) → DqKvs K H kvs ps → Dq K H (.ref a) (.dict ps)
inductive DqAll (K : PySem.W.Frag) (H : Hp) : List V → List PyData → Prop
  | nil : DqAll K H [] []
  | cons {v : V} {vs : List V} {d : PyData} {ds : List PyData} : Dq K H v d → DqAll K H vs ds → DqAll K H (v :: vs) (d :: ds)
inductive DqKvs (K : PySem.W.Frag) (H : Hp) : List (Key × V) → List (PyData × PyData) → Prop
  | nil : DqKvs K H [] []
  | cons {k : Key} {v : V} {kvs : List (Key × V)} {d : PyData} {ps : List (PyData × PyData)} : Dq K H v d → DqKvs K H kvs ps → DqKvs K H ((k, v) :: kvs) ((kD k, d) :: ps)
end
section
variable {K : PySem.W.Frag} {H H' : Hp}
mutual
theorem Dp.q : ∀ (d : PyData) (v : V), Dp K H v d → Dq K H v d
  | .none, _, z => by cases z; exact .non
  | .bool b, _, z => by cases z; exact .bl b
  | .int i, _, z => by cases z; exact .int i
  | .str x, _, z => by cases z; exact .str x
  | .list ds, _, z => by cases z with | lst a b => exact .lst a (DpAll.q ds _ b)
  | .tuple ds, _, z => by cases z with | tup a b => exact .tup a (DpAll.q ds _ b)
  | .dict _, _, z => by cases z
theorem DpAll.q : ∀ (ds : List PyData) (vs : List V), DpAll K H vs ds → DqAll K H vs ds
  | [], _, z => by cases z; exact .nil
  | d :: ds, _, z => by cases z with | cons a b => exact .cons (Dp.q d _ a) (DpAll.q ds _ b)
end
theorem _root_.L2.Dp.dq {d : PyData} {v : V} (z : Dp K H v d) : Dq K H v d := Dp.q d v z
theorem _root_.L2.DpAll.dq {ds : List PyData} {vs : List V} (z : DpAll K H vs ds) : DqAll K H vs ds := DpAll.q ds vs z
mutual
theorem Dq.to (e : Ex H H') : ∀ {v : V} {d : PyData}, Dq K H v d → Dq K H' v d
  | _, _, .non => .non
  | _, _, .bl b => .bl b
  | _, _, .int i => .int i
  | _, _, .str x => .str x
  | _, _, .lst a b => .lst (ex_l e a) (DqAll.to e b)
  | _, _, .tup a b => .tup (ex_t e a) (DqAll.to e b)
  | _, _, .dct a b => .dct (e _ _ a) (DqKvs.to e b)
theorem DqAll.to (e : Ex H H') : ∀ {vs : List V} {ds : List PyData}, DqAll K H vs ds → DqAll K H' vs ds
  | _, _, .nil => .nil
  | _, _, .cons a b => .cons (Dq.to e a) (DqAll.to e b)
theorem DqKvs.to (e : Ex H H') : ∀ {kvs : List (Key × V)} {ps : List (PyData × PyData)}, DqKvs K H kvs ps → DqKvs K H' kvs ps
  | _, _, .nil => .nil
  | _, _, .cons a b => .cons (Dq.to e a) (DqKvs.to e b)
end
end
section
variable {X : Cx} {pins : List (Addr × Obj)} {σ : L2.St} {H : Hp} {s : Shared}
theorem keys_rs {P : Program} {w : World} {h : Heap} {es : List DictEntry} {vs : List (Key × Value)} (p : Pairs (mixKind P w) es vs) :
    RsAll h (es.map (·.key)) (vs.map fun q => kD q.1) := by
  induction p with
  | nil => exact .nil
  | cons a b c ih =>
    rename_i e kv es kvs
    refine .cons ?_ ih
    rcases keyIs_shape (show keyIs kv.1 e.key = true from a) with ⟨i, t, e1, e2⟩ | ⟨x, t, e1, e2⟩
    · show Rs h e.key (kD kv.1)
      rw [e1, e2]; exact .int i t
    · show Rs h e.key (kD kv.1)
      rw [e1, e2]; exact .str x t
theorem vals_eq {P : Program} {w : World} {es : List DictEntry} {vs : List (Key × Value)} (p : Pairs (mixKind P w) es vs) :
    es.map (·.val) = vs.map (·.2) := by
  induction p with
  | nil => rfl
  | cons a b c ih => rw [List.map_cons, List.map_cons, ih, b]
mutual
theorem Dq.rs (I : Inv X pins σ H s) : ∀ {v : V} {d : PyData} {u : Value}, Dq X.K H v d → RelV v u → Rs s.heap u d
  | _, _, _, .non, r => by cases r; exact .none
  | _, _, _, .bl b, r => by cases r; exact .bool b
  | _, _, _, .int i, r => by obtain ⟨t, rfl⟩ := r; exact .int i t
  | _, _, _, .str x, r => by obtain ⟨t, rfl⟩ := r; exact .str x t
  | _, _, _, .lst hs ha, r => by
    cases r
    obtain ⟨its, rv, ⟨o, n, ho, hc, _, hd⟩, _⟩ := I.list hs
    exact .list ho hc hd (DqAll.rs I ha rv)
  | _, _, _, .tup hs ha, r => by
    cases r
    obtain ⟨its, rv, ⟨o, ho, hc, n, hd⟩, _⟩ := I.tuple hs
    exact .tuple ho hc hd (DqAll.rs I ha rv)
  | _, _, _, .dct ha hk, r => by
    cases r
    obtain ⟨_, y, vs, rel, o, es, ep, ho, hx, hd, _, pr, _⟩ := dk_of I.hok ha
    obtain ⟨m1, m2⟩ := DqKvs.rs I hk rel
    refine .dict y ho hx.1 hd ?_ ?_
    · rw [← m1]; exact keys_rs pr
    · rw [vals_eq pr]; exact m2
theorem DqAll.rs (I : Inv X pins σ H s) : ∀ {vs : List V} {ds : List PyData} {us : List Value}, DqAll X.K H vs ds → Vals vs us → RsAll s.heap us ds
  | _, _, _, .nil, r => by cases r; exact .nil
  | _, _, _, .cons a b, r => by cases r with | cons r1 r2 => exact .cons (Dq.rs I a r1) (DqAll.rs I b r2)
theorem DqKvs.rs (I : Inv X pins σ H s) : ∀ {kvs : List (Key × V)} {ps : List (PyData × PyData)} {vs : List (Key × Value)}, DqKvs X.K H kvs ps → KV kvs vs →
    (vs.map fun q => kD q.1) = ps.map (·.1) ∧ RsAll s.heap (vs.map (·.2)) (ps.map (·.2))
  | _, _, _, .nil, r => by cases r; exact ⟨rfl, .nil⟩
  | _, _, _, .cons a b, r => by
    cases r with
    | cons r1 r2 =>
      obtain ⟨m1, m2⟩ := DqKvs.rs I b r2
      refine ⟨?_, .cons (Dq.rs I a r1.2) m2⟩
      rw [List.map_cons, List.map_cons, m1, ← r1.1]
end
end
/-- how many signs repr may take, dicts too -/
def wq : PyData → Nat
  | .none => 4
  | .bool _ => 5
  | .int _ => 1921
  | .str x => (reprText x).length
  | .list xs => wqAll xs + 2
  | .tuple xs => wqAll xs + 3
  | .dict ps => wqKv ps + 2
where
  wqAll : List PyData → Nat
  | [] => 0
  | x :: xs => wq x + 2 + wqAll xs
  wqKv : List (PyData × PyData) → Nat
  | [] => 0
  | (k, v) :: ps => wq k + wq v + 4 + wqKv ps
theorem dictText_wide (ts : List Str) : (dictText ts).length ≤ piled ts + 2 := by
  have e1 : ((("{" : String) : Str)).length = 1 := rfl
  have e2 : ((("}" : String) : Str)).length = 1 := rfl
  unfold dictText
  rw [strLen_append, strLen_append, e1, e2]
  by_cases z : ts = []
  · subst z
    have : (Str.join ", " ([] : List Str)).length = 0 := rfl
    omega
  · have := join_length_add ts z
    omega
mutual
theorem shown_wq : ∀ d : PyData, d.showable = true → d.shown.length ≤ wq d
  | .none, _ => by simp only [PyData.shown, wq]; decide
  | .bool b, _ => by cases b <;> (simp only [PyData.shown, wq]; decide)
  | .int i, z => by
    simp only [PyData.shown, wq]
    exact PyProof.Rows.int_text_len_1921 (of_decide_eq_true (by simpa only [PyData.showable] using z))
  | .str x, _ => by simp only [PyData.shown, wq]; exact Nat.le_refl _
  | .list xs, z => by
    simp only [PyData.shown, wq]
    have q := shown_wqAll xs (by simpa only [PyData.showable] using z)
    exact Nat.le_trans (listText_wide _) (by omega)
  | .tuple xs, z => by
    simp only [PyData.shown, wq]
    have q := shown_wqAll xs (by simpa only [PyData.showable] using z)
    exact Nat.le_trans (tupText_wide _) (by omega)
  | .dict ps, z => by
    simp only [PyData.shown, wq]
    have q := shown_wqKv ps (by simpa only [PyData.showable] using z)
    exact Nat.le_trans (dictText_wide _) (by omega)
theorem shown_wqAll : ∀ ds : List PyData, PyData.showableAll ds = true → piled (PyData.shownAll ds) ≤ wq.wqAll ds
  | [], _ => by simp [PyData.shownAll, piled, wq.wqAll]
  | d :: ds, z => by
    simp only [PyData.showableAll, Bool.and_eq_true] at z
    have q1 := shown_wq d z.1
    have q2 := shown_wqAll ds z.2
    simp only [PyData.shownAll, piled_cons, wq.wqAll]
    omega
theorem shown_wqKv : ∀ ps : List (PyData × PyData), PyData.showableKv ps = true → piled (PyData.shownKv ps) ≤ wq.wqKv ps
  | [], _ => by simp [PyData.shownKv, piled, wq.wqKv]
  | (k, v) :: ps, z => by
    simp only [PyData.showableKv, Bool.and_eq_true] at z
    have q1 := shown_wq k z.1.1
    have q2 := shown_wq v z.1.2
    have q3 := shown_wqKv ps z.2
    have e3 : (((": " : String) : Str)).length = 2 := rfl
    simp only [PyData.shownKv, piled_cons, wq.wqKv, strLen_append]
    omega
end
section
variable {X : Cx}
def rRepQ (K : PySem.W.Frag) : List V → Hp → VK → Prop := fun xs H Q =>
  ∃ v d, xs = [v] ∧ Dq K H v d ∧ d.showable = true ∧ d.depth ≤ 100 ∧ wq d ≤ 10000000 ∧ Q (.str d.shown) H
theorem call_reprQ (qu : Quiet X.A) (hu : X.A.units + 200 < cLine) : CallR X (.builtin "repr") (rRepQ X.K) := by
  intro pins s σ H xs us Q I rv z
  obtain ⟨v, d, rfl, hd, h1, h3, h4, q⟩ := z
  obtain ⟨u, rfl, ru⟩ := vals1 rv
  have rd := Dq.rs I hd ru
  have sz : d.shown.length ≤ sizeLine := Nat.le_trans (shown_wq d h1) (Nat.le_trans h4 big_sz)
  have fin : ∀ h' t tk, (∀ b o, s.heap.get? b = some o → h'.get? b = some o) → EP X pins σ Q (.str d.shown t) { s with heap := h', toks := tk } :=
    fun h' t tk k => ⟨.str _, H, I.kept k, ⟨_, rfl⟩, q⟩
  cases hd with
  | non =>
    obtain rfl : u = Value.none := ru
    exact PySem.P.repr_of_none (fin s.heap _ _ fun _ _ e => e)
  | bl b =>
    obtain rfl : u = Value.bool b := ru
    refine PySem.P.repr_of_bool ?_
    have z := fin s.heap s.toks (s.toks + 1) fun _ _ e => e
    simp only [PyData.shown] at z
    cases b <;> exact z
  | int i =>
    obtain ⟨t, rfl⟩ := ru
    exact PySem.P.repr_of_int (of_decide_eq_true (by simpa only [PyData.showable] using h1)) (fin s.heap _ _ fun _ _ e => e)
  | str x =>
    obtain ⟨t, rfl⟩ := ru
    exact PySem.P.repr_of_str (fin s.heap _ _ fun _ _ e => e) sz
  | lst hs ha =>
    obtain rfl : u = Value.ref _ := ru
    obtain ⟨T, idr, S⟩ := rd.by (prog := X.prog) (w := X.w) h1 sz
    exact call_repr_slot (by omega) (S.typeIs s fun _ _ e => e) S.slotRepr (S.call X.A.in1 _ s _ qu (by show X.A.units + 1 + _ < cLine; omega) (fun _ _ e => e) fun h' u tk hk => ⟨_, _, rfl, fin h' u tk hk⟩)
  | tup hs ha =>
    obtain rfl : u = Value.ref _ := ru
    obtain ⟨T, idr, S⟩ := rd.by (prog := X.prog) (w := X.w) h1 sz
    exact call_repr_slot (by omega) (S.typeIs s fun _ _ e => e) S.slotRepr (S.call X.A.in1 _ s _ qu (by show X.A.units + 1 + _ < cLine; omega) (fun _ _ e => e) fun h' u tk hk => ⟨_, _, rfl, fin h' u tk hk⟩)
  | dct ha hk =>
    obtain rfl : u = Value.ref _ := ru
    obtain ⟨T, idr, S⟩ := rd.by (prog := X.prog) (w := X.w) h1 sz
    exact call_repr_slot (by omega) (S.typeIs s fun _ _ e => e) S.slotRepr (S.call X.A.in1 _ s _ qu (by show X.A.units + 1 + _ < cLine; omega) (fun _ _ e => e) fun h' u tk hk => ⟨_, _, rfl, fin h' u tk hk⟩)
end
end Gx

set_option Elab.async false
set_option linter.all false
set_option maxRecDepth 100000
set_option maxHeartbeats 1000000
/-! What is a list or a tuple; comprehensions that tell data. -/
namespace Gx
open PySem PySem.Spec PyProof.Rows L2 Evl RZ
/-- a tuple (t) or a list -/
def SqB (t : Bool) (K : PySem.W.Frag) (H : Hp) (a : Addr) (xs : List V) : Prop := match t with
  | true => SqT K H a xs
  | false => SqL K H a xs
theorem SqB.or {t : Bool} {K : PySem.W.Frag} {H : Hp} {a : Addr} {xs : List V} (h : SqB t K H a xs) : SqL K H a xs ∨ SqT K H a xs := by
  cases t
  · exact .inl h
  · exact .inr h
theorem SqB.ro {t : Bool} {K : PySem.W.Frag} {H : Hp} {a : Addr} {xs : List V} (h : SqB t K H a xs) : SqT K H a xs ∨ SqL K H a xs := h.or.symm
theorem SqB.to {t : Bool} {K : PySem.W.Frag} {H H' : Hp} {a : Addr} {xs : List V} (h : SqB t K H a xs) (e : Ex H H') : SqB t K H' a xs := by
  cases t
  · exact ex_l e h
  · exact ex_t e h
theorem SqB.ixs {t : Bool} {K : PySem.W.Frag} {H : Hp} {a : Addr} {xs : List V} {i : Int} {v : V} {Q : VK} (h : SqB t K H a xs) (e : atI xs i = some v) (q : Q v H) :
    rIxT K (.ref a) (.int i) H Q ∨ rIxL K (.ref a) (.int i) H Q := by
  cases t
  · exact .inr ⟨a, xs, i, v, rfl, rfl, h, e, q⟩
  · exact .inl ⟨a, xs, i, v, rfl, rfl, h, e, q⟩
theorem IxR.or' {X : Cx} {r r' : R2} (h : IxR X r) (h' : IxR X r') : IxR X (fun x y H Q => r x y H Q ∨ r' x y H Q) := fun value slice pins s σ H x y v u Q I rx ry z hs =>
  z.elim (fun z => h value slice pins s σ H x y v u Q I rx ry z hs) fun z => h' value slice pins s σ H x y v u Q I rx ry z hs
theorem ix_tl {X : Cx} {K : PySem.W.Frag} (h : X.K = K) : IxR X (fun x y H Q => rIxT K x y H Q ∨ rIxL K x y H Q) := IxR.or' (ix_tupK h) (ix_listK h)
def ItB (t : Bool) (K : PySem.W.Frag) (a : Addr) : It := match t with
  | true => Itt K a
  | false => Itl K a
def iSeq (K : PySem.W.Frag) (te : TE) : TI := fun σ H R => te σ H fun x H1 => ∃ (a : Addr) (t : Bool) (xs : List V), x = .ref a ∧ SqB t K H1 a xs ∧ R (ItB t K a) H1
theorem pi_seq {X : Cx} {K : PySem.W.Frag} {tg l : Expr} {te : TE} (hK : X.K = K) (hl : PE X l te) : PI X tg l (iSeq K te) := by
  subst hK
  refine ⟨fun pins s σ H R I h => ?_⟩
  refine thn (hl.run pins s σ H _ I h) fun v s1 ⟨x, H1, I1, r1, a, t, xs, e, hq, q⟩ => ?_
  subst e
  cases r1
  cases t
  · have g : PI X tg l (iList X.K fun _ H Q => H = H1 ∧ Q (.ref a) H1) → True := fun _ => trivial
    obtain ⟨its, rv, p, hz⟩ := I1.list hq
    refine wpAny_pyIter_list p.isList ?_
    refine ⟨s1.heap.objs.size, [s1.heap.objs.size], _, _, H1, rfl, I1.kept (t' := s1.toks) fun b o e => Heap.get?_push_of_some _ e, turn_list a _, ⟨_, Heap.get?_push_size _ rfl, rfl, rfl⟩, fun b hb => ?_, q⟩
    have e : b = s1.heap.objs.size := by simpa using hb
    subst e
    exact I1.fpOk (Nat.le_refl _) (I1.hok.fresh (Nat.le_refl _))
  · obtain ⟨its, rv, p, hz⟩ := I1.tuple hq
    refine wpAny_pyIter_tuple (show s1.heap.IsTuple a its.toArray from p) ?_
    refine ⟨s1.heap.objs.size, [s1.heap.objs.size], _, _, H1, rfl, I1.kept (t' := s1.toks) fun b o e => Heap.get?_push_of_some _ e, turn_tuple a _, ⟨_, Heap.get?_push_size _ rfl, rfl, rfl⟩, fun b hb => ?_, q⟩
    have e : b = s1.heap.objs.size := by simpa using hb
    subst e
    exact I1.fpOk (Nat.le_refl _) (I1.hok.fresh (Nat.le_refl _))
theorem for_seq {t : Bool} {K : PySem.W.Frag} {a : Addr} {xs : List V} {g : TG} {tb : TS} {D : Ends} {σ : L2.St} {H : Hp} (Pv : Nat → L2.St → Hp → Prop) (h0 : Pv 0 σ H) (hl : ∀ i σ H, i ≤ xs.length → Pv i σ H → SqB t K H a xs)
    (hs : ∀ i x σ H, xs[i]? = some x → Pv i σ H → g x σ H fun σ2 H2 => tb { D with nx := Pv (i + 1), ct := Pv (i + 1), bk := D.nx } σ2 H2) (hd : ∀ σ H, Pv xs.length σ H → D.nx σ H) :
    ∃ W : Nat → Nat → L2.St → Hp → Prop, (∃ m, W 0 m σ H) ∧ ∀ i m σ H, W i m σ H →
      ((ItB t K a).stop i H ∧ D.nx σ H) ∨ ((ItB t K a).go i H ∧ ∃ N : L2.St → Hp → Prop, (∀ σ' H', N σ' H' → ∃ m', m' < m ∧ W (i + 1) m' σ' H') ∧ ∀ x H', (ItB t K a).yld i H x H' → g x σ H' fun σ2 H2 => tb { D with nx := N, ct := N, bk := D.nx } σ2 H2) := by
  cases t
  · exact for_list (K := K) Pv h0 hl hs hd
  · exact for_tup (K := K) Pv h0 hl hs hd
theorem lc_seq {t : Bool} {K : PySem.W.Frag} {a : Addr} {xs : List V} {g : TG} {tt : TT} {te : TE} {vs : List Nat} {σ : L2.St} {H1 : Hp} {D : Addr} {Qd : Hp → Prop} (Pv : Nat → Hp → Prop) (h0 : Pv 0 (upd H1 D (.lst []))) (hl : ∀ i H, i ≤ xs.length → Pv i H → SqB t K H a xs)
    (hs : ∀ i x H, xs[i]? = some x → Pv i H → g x (wipe σ vs) H fun σ2 H2 => wipe σ2 vs = wipe σ vs ∧ tt σ2 H2 fun b H3 =>
      if b = true then te σ2 H3 fun y H4 => ∃ acc, H4 D = some (.lst acc) ∧ acc.length < sizeLine ∧ Pv (i + 1) (upd H4 D (.lst (acc ++ [y]))) else Pv (i + 1) H3) (hd : ∀ H, Pv xs.length H → Qd H) :
    ∃ W : Nat → Nat → Hp → Prop, (∃ m, W 0 m (upd H1 D (.lst []))) ∧ ∀ i m H, W i m H →
      ((ItB t K a).stop i H ∧ Qd H) ∨ ((ItB t K a).go i H ∧ ∃ Nx : Hp → Prop, (∀ H', Nx H' → ∃ m', m' < m ∧ W (i + 1) m' H') ∧ ∀ x H', (ItB t K a).yld i H x H' → g x (wipe σ vs) H' fun σ2 H2 => wipe σ2 vs = wipe σ vs ∧ tt σ2 H2 fun b H3 =>
        if b = true then te σ2 H3 fun y H4 => ∃ acc, H4 D = some (.lst acc) ∧ acc.length < sizeLine ∧ Nx (upd H4 D (.lst (acc ++ [y]))) else Nx H3) := by
  cases t
  · exact lc_list (K := K) Pv h0 hl hs hd
  · exact lc_tup (K := K) Pv h0 hl hs hd
/-! ### data without lists: it stands whatever list is written -/
mutual
def flatD : PyData → Bool
  | .list _ => false
  | .dict _ => false
  | .tuple xs => flatDs xs
  | _ => true
def flatDs : List PyData → Bool
  | [] => true
  | d :: ds => flatD d && flatDs ds
end
section
variable {K : PySem.W.Frag} {H H' : Hp}
mutual
theorem dp_exI (e : ExI H H') : ∀ (d : PyData) (v : V), flatD d = true → Dp K H v d → Dp K H' v d
  | .none, _, _, h => by cases h; exact .non
  | .bool b, _, _, h => by cases h; exact .bl b
  | .int i, _, _, h => by cases h; exact .int i
  | .str x, _, _, h => by cases h; exact .str x
  | .list ds, _, q, h => by simp [flatD] at q
  | .tuple ds, _, q, h => by
    cases h with
    | tup hs ha => exact .tup (e.sq hs) (dpAll_exI e ds _ (by simpa [flatD] using q) ha)
  | .dict _, _, _, h => by cases h
theorem dpAll_exI (e : ExI H H') : ∀ (ds : List PyData) (vs : List V), flatDs ds = true → DpAll K H vs ds → DpAll K H' vs ds
  | [], _, _, h => by cases h; exact .nil
  | d :: ds, _, q, h => by
    simp only [flatDs, Bool.and_eq_true] at q
    cases h with
    | cons h1 h2 => exact .cons (dp_exI e d _ q.1 h1) (dpAll_exI e ds _ q.2 h2)
end
end
theorem flatDs_all {ds : List PyData} (h : ∀ d ∈ ds, flatD d = true) : flatDs ds = true := by
  induction ds with
  | nil => rfl
  | cons d ds ih => simp only [flatDs, Bool.and_eq_true]; exact ⟨h d List.mem_cons_self, ih fun x hx => h x (List.mem_cons_of_mem _ hx)⟩
theorem flatDs_mem {ds : List PyData} (h : flatDs ds = true) : ∀ d ∈ ds, flatD d = true := by
  induction ds with
  | nil => simp
  | cons d ds ih =>
    simp only [flatDs, Bool.and_eq_true] at h
    intro x hx
    rcases List.mem_cons.mp hx with rfl | hx
    · exact h.1
    · exact ih h.2 x hx
/-- what the turns of a comprehension have told so far -/
def outs (out : Nat → Option PyData) (n : Nat) : List PyData := (List.range n).filterMap out
theorem outs_succ (out : Nat → Option PyData) (n : Nat) : outs out (n + 1) = outs out n ++ (out n).toList := by
  unfold outs
  rw [List.range_succ, List.filterMap_append]
  cases e : out n <;> simp [e]
/-- a comprehension over a list or a tuple, each turn telling data without lists, or nothing -/
theorem lc_dp {t : Bool} {K : PySem.W.Frag} {a : Addr} {xs : List V} {g : TG} {tt : TT} {te : TE} {vs : List Nat} {σ : L2.St} {H1 : Hp} {D : Addr} {Qd : Hp → Prop} (out : Nat → Option PyData)
    (hD : H1 D = none) (hq : SqB t K H1 a xs) (hz : xs.length < sizeLine)
    (hs : ∀ i x H (N : V → Hp → Prop) (M : Hp → Prop), xs[i]? = some x → Ex H1 H → (∀ y H4 d, Ex H H4 → out i = some d → flatD d = true → Dp K H4 y d → N y H4) → (out i = none → ∀ H3, Ex H H3 → M H3) →
      g x (wipe σ vs) H fun σ2 H2 => wipe σ2 vs = wipe σ vs ∧ tt σ2 H2 fun b H3 => if b = true then te σ2 H3 N else M H3)
    (hd : ∀ H ys, Ex H1 H → H D = some (.lst ys) → DpAll K H ys (outs out xs.length) → Qd H) :
    ∃ W : Nat → Nat → Hp → Prop, (∃ m, W 0 m (upd H1 D (.lst []))) ∧ ∀ i m H, W i m H →
      ((ItB t K a).stop i H ∧ Qd H) ∨ ((ItB t K a).go i H ∧ ∃ Nx : Hp → Prop, (∀ H', Nx H' → ∃ m', m' < m ∧ W (i + 1) m' H') ∧ ∀ x H', (ItB t K a).yld i H x H' → g x (wipe σ vs) H' fun σ2 H2 => wipe σ2 vs = wipe σ vs ∧ tt σ2 H2 fun b H3 =>
        if b = true then te σ2 H3 fun y H4 => ∃ acc, H4 D = some (.lst acc) ∧ acc.length < sizeLine ∧ Nx (upd H4 D (.lst (acc ++ [y]))) else Nx H3) := by
  refine lc_seq (fun i H => i ≤ xs.length ∧ Ex H1 H ∧ ∃ ys, H D = some (.lst ys) ∧ ys.length ≤ i ∧ flatDs (outs out i) = true ∧ DpAll K H ys (outs out i)) ?_ (fun i H _ p => hq.to p.2.1) ?_ ?_
  · exact ⟨Nat.zero_le _, Ex.new hD, [], upd_same, Nat.le_refl _, rfl, .nil⟩
  · rintro i x H hx ⟨hi, e, ys, hy, hl, hf, hp⟩
    have hil : i < xs.length := (List.getElem?_eq_some_iff.mp hx).1
    refine hs i x H _ _ hx e (fun y H4 d e4 ho hfd hdp => ?_) fun ho H3 e3 => ?_
    · have hy4 := e4 _ _ hy
      refine ⟨ys, hy4, by omega, hil, (e.trans e4).mut hD, ys ++ [y], upd_same, by simp; omega, ?_, ?_⟩
      · rw [outs_succ, ho]
        refine flatDs_all fun z hz => ?_
        rcases List.mem_append.mp hz with hz | hz
        · exact flatDs_mem hf z hz
        · simp at hz; subst hz; exact hfd
      · rw [outs_succ, ho]
        have ei : ExI H4 (upd H4 D (.lst (ys ++ [y]))) := ExI.put hy4 rfl
        exact (dpAll_exI ei _ _ hf (hp.to e4)).app (.one (dp_exI ei d y hfd hdp))
    · refine ⟨hil, e.trans e3, ys, e3 _ _ hy, by omega, ?_, ?_⟩
      · rw [outs_succ, ho]; simpa using hf
      · rw [outs_succ, ho]; simpa using hp.to e3
  · rintro H ⟨_, e, ys, hy, _, _, hp⟩
    exact hd H ys e hy hp
def ItzB (t : Bool) (K : PySem.W.Frag) (a b : Addr) : It := match t with
  | true => ItzT K a b
  | false => Itz K a b
def GoB (t : Bool) (K : PySem.W.Frag) (a b : Addr) (i : Nat) (H : Hp) : Prop := ∃ (xs ys : List V) (x y : V), SqB t K H a xs ∧ SqB t K H b ys ∧ xs[i]? = some x ∧ ys[i]? = some y
/-- a comprehension over zip(a, b), both tuples or both lists -/
theorem lc_dpz {t : Bool} {K : PySem.W.Frag} {a b : Addr} {xs ys : List V} {g : TG} {tt : TT} {te : TE} {vs : List Nat} {σ : L2.St} {H1 : Hp} {D : Addr} {Qd : Hp → Prop} (out : Nat → Option PyData)
    (hD : H1 D = none) (hqa : SqB t K H1 a xs) (hqb : SqB t K H1 b ys) (hz : xs.length < sizeLine)
    (hs : ∀ i x y T H (N : V → Hp → Prop) (M : Hp → Prop), xs[i]? = some x → ys[i]? = some y → Ex H1 H → H T = none → (∀ y H4 d, Ex H H4 → out i = some d → flatD d = true → Dp K H4 y d → N y H4) → (out i = none → ∀ H3, Ex H H3 → M H3) →
      g (.ref T) (wipe σ vs) (upd H T (.tup [x, y])) fun σ2 H2 => wipe σ2 vs = wipe σ vs ∧ tt σ2 H2 fun b H3 => if b = true then te σ2 H3 N else M H3)
    (hd : ∀ H zs, Ex H1 H → H D = some (.lst zs) → DpAll K H zs (outs out (min xs.length ys.length)) → Qd H) :
    ∃ W : Nat → Nat → Hp → Prop, (∃ m, W 0 m (upd H1 D (.lst []))) ∧ ∀ i m H, W i m H →
      ((ItzB t K a b).stop i H ∧ Qd H) ∨ ((ItzB t K a b).go i H ∧ ∃ Nx : Hp → Prop, (∀ H', Nx H' → ∃ m', m' < m ∧ W (i + 1) m' H') ∧ ∀ x H', (ItzB t K a b).yld i H x H' → g x (wipe σ vs) H' fun σ2 H2 => wipe σ2 vs = wipe σ vs ∧ tt σ2 H2 fun b H3 =>
        if b = true then te σ2 H3 fun y H4 => ∃ acc, H4 D = some (.lst acc) ∧ acc.length < sizeLine ∧ Nx (upd H4 D (.lst (acc ++ [y]))) else Nx H3) := by
  refine ⟨fun i m H => m = min xs.length ys.length - i ∧ i ≤ min xs.length ys.length ∧ Ex H1 H ∧ ∃ zs, H D = some (.lst zs) ∧ zs.length ≤ i ∧ flatDs (outs out i) = true ∧ DpAll K H zs (outs out i),
    ⟨min xs.length ys.length, by simp, Nat.zero_le _, Ex.new hD, [], upd_same, Nat.le_refl _, rfl, .nil⟩, ?_⟩
  rintro i m H ⟨rfl, hi, e, zs, hy, hl, hf, hp⟩
  have qa := hqa.to e
  have qb := hqb.to e
  by_cases hlt : i < min xs.length ys.length
  · have ha : xs[i]? = some (xs[i]'(by omega)) := List.getElem?_eq_getElem (by omega)
    have hb : ys[i]? = some (ys[i]'(by omega)) := List.getElem?_eq_getElem (by omega)
    refine .inr ⟨?_, fun H => i + 1 ≤ min xs.length ys.length ∧ Ex H1 H ∧ ∃ zs, H D = some (.lst zs) ∧ zs.length ≤ i + 1 ∧ flatDs (outs out (i + 1)) = true ∧ DpAll K H zs (outs out (i + 1)), fun H' p' => ⟨_, by omega, rfl, p'⟩, ?_⟩
    · cases t
      · exact ⟨xs, ys, _, _, qa, qb, ha, hb⟩
      · exact ⟨xs, ys, _, _, qa, qb, ha, hb⟩
    · have key : ∀ x y T, H T = none → xs[i]? = some x → ys[i]? = some y → g (.ref T) (wipe σ vs) (upd H T (.tup [x, y])) fun σ2 H2 => wipe σ2 vs = wipe σ vs ∧ tt σ2 H2 fun b H3 =>
          if b = true then te σ2 H3 fun y H4 => ∃ acc, H4 D = some (.lst acc) ∧ acc.length < sizeLine ∧ (i + 1 ≤ min xs.length ys.length ∧ Ex H1 (upd H4 D (.lst (acc ++ [y]))) ∧ ∃ zs, (upd H4 D (.lst (acc ++ [y]))) D = some (.lst zs) ∧ zs.length ≤ i + 1 ∧ flatDs (outs out (i + 1)) = true ∧ DpAll K (upd H4 D (.lst (acc ++ [y]))) zs (outs out (i + 1)))
          else (i + 1 ≤ min xs.length ys.length ∧ Ex H1 H3 ∧ ∃ zs, H3 D = some (.lst zs) ∧ zs.length ≤ i + 1 ∧ flatDs (outs out (i + 1)) = true ∧ DpAll K H3 zs (outs out (i + 1))) := fun x y T nT hx hy' => by
        refine hs i x y T H _ _ hx hy' e nT (fun z H4 d e4 ho hfd hdp => ?_) fun ho H3 e3 => ?_
        · have hy4 := e4 _ _ hy
          refine ⟨zs, hy4, by omega, hlt, (e.trans e4).mut hD, zs ++ [z], upd_same, by simp; omega, ?_, ?_⟩
          · rw [outs_succ, ho]
            refine flatDs_all fun z hz => ?_
            rcases List.mem_append.mp hz with hz | hz
            · exact flatDs_mem hf z hz
            · simp at hz; subst hz; exact hfd
          · rw [outs_succ, ho]
            have ei : ExI H4 (upd H4 D (.lst (zs ++ [z]))) := ExI.put hy4 rfl
            exact (dpAll_exI ei _ _ hf (hp.to e4)).app (.one (dp_exI ei d z hfd hdp))
        · refine ⟨hlt, e.trans e3, zs, e3 _ _ hy, by omega, ?_, ?_⟩
          · rw [outs_succ, ho]; simpa using hf
          · rw [outs_succ, ho]; simpa using hp.to e3
      cases t
      · rintro v H' ⟨T, x, y, rfl, nT, rfl, hx, hy'⟩
        exact key x y T nT (hx xs qa) (hy' ys qb)
      · rintro v H' ⟨T, x, y, rfl, nT, rfl, hx, hy'⟩
        exact key x y T nT (hx xs qa) (hy' ys qb)
  · have ei : i = min xs.length ys.length := by omega
    subst ei
    refine .inl ⟨?_, hd H zs e hy hp⟩
    cases t
    · exact ⟨xs, ys, qa, qb, by omega⟩
    · exact ⟨xs, ys, qa, qb, by omega⟩
theorem atI_back {α : Type} {xs : List α} {v : α} (h : xs[xs.length - 1]? = some v) : atI xs (-1) = some v := by
  have h0 : xs.length - 1 < xs.length := (List.getElem?_eq_some_iff.mp h).1
  unfold atI
  have e : ixN xs.length (-1) = some (xs.length - 1) := by
    unfold ixN
    rw [if_neg (by decide), if_pos (by omega)]
    congr 1
    omega
  rw [e]
  exact h
theorem cut_tail (xs : List V) (h : 1 ≤ xs.length) : cutV xs (some 1) none = xs.tail := by
  unfold cutV
  rw [show HT.sIx xs.length 0 (some 1) = min 1 xs.length from rfl, show HT.sIx xs.length xs.length none = xs.length from rfl]
  have : min 1 xs.length = 1 := by omega
  rw [this, List.drop_one]
  exact List.take_of_length_le (by simp)
theorem dpAll_tail {K : PySem.W.Frag} {H : Hp} {xs : List V} {ds : List PyData} (h : DpAll K H xs ds) : DpAll K H xs.tail ds.tail := by
  cases h with
  | nil => exact .nil
  | cons _ h => exact h
theorem drop_cons {α : Type} {s : List α} {i : Nat} {p : α} (h : s[i]? = some p) : s.drop i = p :: s.drop (i + 1) := by
  obtain ⟨h1, h2⟩ := List.getElem?_eq_some_iff.mp h
  rw [List.drop_eq_getElem_cons h1, h2]
theorem for_enumL {K : PySem.W.Frag} {a : Addr} {xs : List V} {g : TG} {tb : TS} {D : Ends} {σ : L2.St} {H : Hp} (Pv : Nat → L2.St → Hp → Prop)
    (h0 : Pv 0 σ H) (hl : ∀ i σ H, i ≤ xs.length → Pv i σ H → SqL K H a xs)
    (hs : ∀ i x T σ H, xs[i]? = some x → Pv i σ H → H T = none →
      g (.ref T) σ (upd H T (.tup [.int (i : Nat), x])) fun σ2 H2 => tb { D with nx := Pv (i + 1), ct := Pv (i + 1), bk := D.nx } σ2 H2)
    (hd : ∀ σ H, Pv xs.length σ H → D.nx σ H) :
    ∃ W : Nat → Nat → L2.St → Hp → Prop, (∃ m, W 0 m σ H) ∧ ∀ i m σ H, W i m σ H →
      ((Ite K a).stop i H ∧ D.nx σ H) ∨ ((Ite K a).go i H ∧ ∃ N : L2.St → Hp → Prop, (∀ σ' H', N σ' H' → ∃ m', m' < m ∧ W (i + 1) m' σ' H') ∧
        ∀ x H', (Ite K a).yld i H x H' → g x σ H' fun σ2 H2 => tb { D with nx := N, ct := N, bk := D.nx } σ2 H2) := by
  refine ⟨fun i m σ H => m = xs.length - i ∧ i ≤ xs.length ∧ Pv i σ H, ⟨xs.length, by simp, Nat.zero_le _, h0⟩, ?_⟩
  rintro i m σ H ⟨rfl, hi, p⟩
  have q := hl i σ H hi p
  by_cases hlt : i < xs.length
  · refine .inr ⟨⟨xs, xs[i], q, List.getElem?_eq_getElem hlt⟩, Pv (i + 1), fun σ' H' p' => ⟨_, by omega, rfl, hlt, p'⟩, ?_⟩
    rintro v H' ⟨T, x, rfl, nT, rfl, hx⟩
    exact hs i x T σ H (hx xs q) p nT
  · have e : i = xs.length := by omega
    subst e
    exact .inl ⟨⟨xs, q, Nat.le_refl _⟩, hd σ H p⟩

end Gx

set_option Elab.async false
set_option linter.all false
set_option maxRecDepth 100000
set_option maxHeartbeats 1000000
/-! Stretches in the heap. -/
namespace Gx
open PySem PySem.Spec PyProof.Rows L2 Evl
def dO : Option Int → PyData
  | none => .none
  | some i => .int i
def vO : Option Int → V
  | none => .non
  | some i => .int i
def dSt (p : Sx) : PyData := .tuple [dO p.1, dO p.2]
section
variable {K : PySem.W.Frag} {H H' : Hp}
theorem dp_vO (o : Option Int) : Dp K H (vO o) (dO o) := by cases o; exact .non; exact .int _
theorem dp_vO_inv {o : Option Int} {v : V} (h : Dp K H v (dO o)) : v = vO o := by cases o <;> cases h <;> rfl
theorem dSt_mk {t : Addr} {p : Sx} (h : SqT K H t [vO p.1, vO p.2]) : Dp K H (.ref t) (dSt p) := .tup h (.cons (dp_vO _) (.cons (dp_vO _) .nil))
theorem dSt_inv {v : V} {p : Sx} (h : Dp K H v (dSt p)) : ∃ t, v = .ref t ∧ SqT K H t [vO p.1, vO p.2] := by
  obtain ⟨t, xs, rfl, hs, ha⟩ := h.tup_inv
  obtain ⟨x, y, rfl, h1, h2⟩ := ha.two
  rw [dp_vO_inv h1, dp_vO_inv h2] at hs
  exact ⟨t, rfl, hs⟩
theorem dSt_flat (p : Sx) : flatD (dSt p) = true := by
  obtain ⟨a, b⟩ := p
  cases a <;> cases b <;> rfl
theorem dSts_flat (s : List Sx) : flatDs (s.map dSt) = true := flatDs_all fun d hd => by
  obtain ⟨p, _, rfl⟩ := List.mem_map.mp hd
  exact dSt_flat p
/-- at a a list or a tuple of the stretches s -/
def StsB (t : Bool) (K : PySem.W.Frag) (H : Hp) (a : Addr) (s : List Sx) : Prop := ∃ xs, SqB t K H a xs ∧ DpAll K H xs (s.map dSt)
theorem StsB.to {t : Bool} {a : Addr} {s : List Sx} (h : StsB t K H a s) (e : Ex H H') : StsB t K H' a s := by
  obtain ⟨xs, h1, h2⟩ := h
  exact ⟨xs, h1.to e, h2.to e⟩
theorem sts_get {xs : List V} {s : List Sx} (h : DpAll K H xs (s.map dSt)) {i : Nat} {x : V} (e : xs[i]? = some x) : ∃ p t, s[i]? = some p ∧ x = .ref t ∧ SqT K H t [vO p.1, vO p.2] := by
  obtain ⟨d, h1, h2⟩ := h.get e
  rw [List.getElem?_map] at h1
  obtain ⟨p, hp, rfl⟩ := Option.map_eq_some_iff.mp h1
  obtain ⟨t, e1, e2⟩ := dSt_inv h2
  exact ⟨p, t, hp, e1, e2⟩
theorem sts_get' {xs : List V} {s : List Sx} (h : DpAll K H xs (s.map dSt)) {i : Nat} {p : Sx} (e : s[i]? = some p) : ∃ t, xs[i]? = some (.ref t) ∧ SqT K H t [vO p.1, vO p.2] := by
  obtain ⟨v, h1, h2⟩ := h.get' (i := i) (d := dSt p) (by rw [List.getElem?_map, e]; rfl)
  obtain ⟨t, e1, e2⟩ := dSt_inv h2
  exact ⟨t, by rw [h1, e1], e2⟩
theorem sts_len {xs : List V} {s : List Sx} (h : DpAll K H xs (s.map dSt)) : xs.length = s.length := by rw [h.len, List.length_map]
/-- what isinstance says of an end -/
theorem ty_vO (o : Option Int) : ∃ t, TyX K H (vO o) t ∧ PySem.W.kitOne K t (.type "int") = some o.isSome ∧ PySem.W.kitOne K t (.type "bool") = some false ∧ PySem.W.kitOne K t (.type "tuple") = some false := by
  cases o with
  | none => exact ⟨.type "NoneType", .base .non, kit_ty (by show _ = some false; decide +kernel), kit_ty (by show _ = some false; decide +kernel), kit_ty (by show _ = some false; decide +kernel)⟩
  | some i => exact ⟨.type "int", .base (.int i), kit_ty (by show _ = some true; decide +kernel), kit_ty (by show _ = some false; decide +kernel), kit_ty (by show _ = some false; decide +kernel)⟩
theorem ty_tup {a : Addr} {xs : List V} (h : SqT K H a xs) : TyX K H (.ref a) (.type "tuple") := by
  rcases h with (h | ⟨ob, h⟩) | ⟨o, its, n, hk, hc, _⟩
  · exact .base (.tup h)
  · exact .fTuple h
  · exact .kTuple hk hc
theorem ty_lst {a : Addr} {xs : List V} (h : SqL K H a xs) : TyX K H (.ref a) (.type "list") := by
  rcases h with (h | ⟨ob, h⟩) | ⟨o, its, n, hk, hc, _⟩
  · exact .base (.lst h)
  · exact .base (.frz h)
  · exact .kList hk hc
theorem ko_tt : PySem.W.kitOne K (.type "tuple") (.type "tuple") = some true := kit_ty (by show _ = some true; decide +kernel)
theorem ko_lt : PySem.W.kitOne K (.type "list") (.type "tuple") = some false := kit_ty (by show _ = some false; decide +kernel)
theorem ko_ll : PySem.W.kitOne K (.type "list") (.type "list") = some true := kit_ty (by show _ = some true; decide +kernel)
theorem ko_tl : PySem.W.kitOne K (.type "tuple") (.type "list") = some false := kit_ty (by show _ = some false; decide +kernel)
theorem exB_ex {F : Addr} {H4 : Hp} (e : ExB F H4 H') (e0 : Ex H H4) (n : H F = none) : Ex H H' := fun b o h => e b o (fun z => by subst z; rw [n] at h; cases h) (e0 b o h)
theorem exB_l {F a : Addr} {xs : List V} (e : ExB F H H') (h : H a = some (.lst xs)) (n : a ≠ F) : H' a = some (.lst xs) := e _ _ n h
theorem outs_bind {α : Type} (f : α → Option PyData) (s : List α) : outs (fun i => (s[i]?).bind f) s.length = s.filterMap f := by
  unfold outs
  have go : ∀ n, n ≤ s.length → (List.range n).filterMap (fun i => (s[i]?).bind f) = (s.take n).filterMap f := by
    intro n
    induction n with
    | zero => intro _; simp
    | succ n ih =>
      intro h
      rw [List.range_succ, List.filterMap_append, ih (by omega), List.take_add_one, List.filterMap_append]
      have : s[n]? = some (s[n]'(by omega)) := List.getElem?_eq_getElem (by omega)
      rw [this]
      congr 1
      simp only [Option.toList, List.filterMap_cons, List.filterMap_nil, this, Option.bind]
  have := go s.length (Nat.le_refl _)
  rwa [List.take_length] at this
theorem dpAll_zip {α : Type} (d : α → PyData) : ∀ (zs : List (V × α)), (∀ z ∈ zs, Dp K H z.1 (d z.2)) → DpAll K H (zs.map (·.1)) ((zs.map (·.2)).map d)
  | [], _ => .nil
  | z :: zs, h => .cons (h z List.mem_cons_self) (dpAll_zip d zs fun x hx => h x (List.mem_cons_of_mem _ hx))
theorem zip_dpAll {α : Type} (d : α → PyData) : ∀ {xs : List V} {s : List α}, DpAll K H xs (s.map d) → ∃ zs : List (V × α), zs.map (·.1) = xs ∧ zs.map (·.2) = s ∧ ∀ z ∈ zs, Dp K H z.1 (d z.2)
  | xs, [], h => by cases h; exact ⟨[], rfl, rfl, by simp⟩
  | xs, a :: s, h => by
    cases h with
    | cons h1 h2 =>
      obtain ⟨zs, e1, e2, e3⟩ := zip_dpAll d h2
      refine ⟨(_, a) :: zs, by rw [List.map_cons, e1], by rw [List.map_cons, e2], fun z hz => ?_⟩
      rcases List.mem_cons.mp hz with rfl | hz
      · exact h1
      · exact e3 z hz
/-- what sorted(.., key=_low) makes of stretches -/
theorem sorted_low {l : Addr} {ys : List V} {s : List Sx} {f : Addr} {Q : VK} (hl : SqL K H l ys) (hd : DpAll K H ys (s.map dSt)) (hs : ∀ p ∈ s, p.1.isSome = true)
    (q : ∀ p ws, H p = none → ws.length = s.length → DpAll K (upd H p (.lst ws)) ws ((s.mergeSort fun p q => decide (Spn.lowV p ≤ Spn.lowV q)).map dSt) → Q (.ref p) (upd H p (.lst ws))) :
    rSortedLow K f [.ref l] [.ref f] H Q := by
  obtain ⟨zs, e1, e2, e3⟩ := zip_dpAll dSt hd
  have em : (zs.map fun z => (z.1, Spn.lowV z.2)).map (·.1) = zs.map (·.1) := by rw [List.map_map]; rfl
  refine ⟨l, zs.map fun z => (z.1, Spn.lowV z.2), rfl, rfl, by rw [em, e1]; exact hl, fun p hp => ?_, fun p np => ?_⟩
  · obtain ⟨z, hz, rfl⟩ := List.mem_map.mp hp
    obtain ⟨t, h1, h2⟩ := dSt_inv (e3 z hz)
    have hm : z.2 ∈ s := by rw [← e2]; exact List.mem_map_of_mem hz
    have := hs _ hm
    obtain ⟨v, ⟨a, b⟩⟩ := z
    cases a with
    | none => cases this
    | some a => exact ⟨t, _, h1, h2⟩
  · have s1 : (zs.mergeSort fun x y => decide (Spn.lowV x.2 ≤ Spn.lowV y.2)).map (fun z => (z.1, Spn.lowV z.2)) = (zs.map fun z => (z.1, Spn.lowV z.2)).mergeSort fun x y => decide (x.2 ≤ y.2) :=
      PySem.W.sort_maps _ fun _ _ _ _ => rfl
    have s2 : (zs.mergeSort fun x y => decide (Spn.lowV x.2 ≤ Spn.lowV y.2)).map (·.2) = (zs.map (·.2)).mergeSort fun p q => decide (Spn.lowV p ≤ Spn.lowV q) :=
      PySem.W.sort_maps _ fun _ _ _ _ => rfl
    rw [← s1, List.map_map]
    have s3 : (zs.mergeSort fun x y => decide (Spn.lowV x.2 ≤ Spn.lowV y.2)).map ((fun x : V × Int => x.1) ∘ fun z => (z.1, Spn.lowV z.2)) = (zs.mergeSort fun x y => decide (Spn.lowV x.2 ≤ Spn.lowV y.2)).map (·.1) := rfl
    rw [s3]
    refine q p _ np ?_ ?_
    · rw [List.length_map, List.length_mergeSort, ← e2, List.length_map]
    · rw [← e2, ← s2]
      refine dpAll_zip dSt _ fun z hz => ?_
      exact (e3 z (List.mem_mergeSort.mp hz)).to (Ex.new np)
theorem StsB.toI {a : Addr} {s : List Sx} (h : StsB true K H a s) (e : ExI H H') : StsB true K H' a s := by
  obtain ⟨xs, h1, h2⟩ := h
  exact ⟨xs, e.sq h1, dpAll_exI e _ _ (dSts_flat s) h2⟩
theorem dO_eqv (a b : Option Int) : PyData.eqv (dO a) (dO b) = decide (a = b) := by
  cases a <;> cases b <;> simp [dO, PyData.eqv]
  rename_i x y
  by_cases h : x = y <;> simp [h]
theorem dSt_eqv (p q : Sx) : PyData.eqv (dSt p) (dSt q) = decide (p = q) := by
  obtain ⟨a, b⟩ := p
  obtain ⟨c, d⟩ := q
  simp only [dSt, PyData.eqv, PyData.eqvAll, dO_eqv, Bool.and_true, Prod.mk.injEq, Bool.decide_and]
theorem dSts_eqv : ∀ s r : List Sx, PyData.eqvAll (s.map dSt) (r.map dSt) = decide (s = r)
  | [], [] => rfl
  | [], _ :: _ => rfl
  | _ :: _, [] => rfl
  | p :: s, q :: r => by
    simp only [List.map_cons, PyData.eqvAll, dSt_eqv, dSts_eqv s r, List.cons.injEq, Bool.decide_and]
theorem dO_can (a : Option Int) : PyData.canLay0 (dO a) = true ∧ (dO a).depth = 0 := by cases a <;> exact ⟨rfl, rfl⟩
theorem dSts_can : ∀ s : List Sx, PyData.canLayAll0 (s.map dSt) = true ∧ PyData.depthAll (s.map dSt) ≤ 1
  | [] => ⟨rfl, Nat.zero_le _⟩
  | p :: s => by
    obtain ⟨h1, h2⟩ := dSts_can s
    obtain ⟨a, b⟩ := p
    cases a <;> cases b <;> (refine ⟨?_, ?_⟩ <;> simp_all [PyData.canLayAll0, PyData.canLay0, PyData.depthAll, PyData.depth, dSt, dO])
theorem dSts_shaped (s : List Sx) : SeqAt.shaped (.tuple (s.map dSt)) = true ∧ SeqAt.shaped (.list (s.map dSt)) = true := by
  obtain ⟨h1, h2⟩ := dSts_can s
  have e1 : PyData.canLay0 (.tuple (s.map dSt)) = true := by simpa [PyData.canLay0] using h1
  have e2 : PyData.canLay0 (.list (s.map dSt)) = true := by simpa [PyData.canLay0] using h1
  refine ⟨?_, ?_⟩
  · unfold SeqAt.shaped
    rw [e1, Bool.true_and]
    refine decide_eq_true ?_
    simp only [PyData.depth]
    omega
  · unfold SeqAt.shaped
    rw [e2, Bool.true_and]
    refine decide_eq_true ?_
    simp only [PyData.depth]
    omega
theorem sts_tup {a : Addr} {s : List Sx} (h : StsB true K H a s) : Dp K H (.ref a) (.tuple (s.map dSt)) := by
  obtain ⟨xs, h1, h2⟩ := h
  exact .tup h1 h2
theorem perm_lift {α β : Type} {ys xs : List α} (h : ys.Perm xs) : ∀ ps : List (α × β), ps.map (·.1) = xs → ∃ ps' : List (α × β), ps'.Perm ps ∧ ps'.map (·.1) = ys := by
  induction h with
  | nil => intro ps e; exact ⟨[], by cases ps with | nil => exact .refl _ | cons _ _ => simp at e, rfl⟩
  | cons x _ ih =>
    intro ps e
    cases ps with
    | nil => simp at e
    | cons p ps =>
      simp only [List.map_cons, List.cons.injEq] at e
      obtain ⟨ps', h1, h2⟩ := ih ps e.2
      exact ⟨p :: ps', .cons p h1, by rw [List.map_cons, h2, e.1]⟩
  | swap x y l =>
    intro ps e
    match ps, e with
    | p :: q :: ps, e =>
      simp only [List.map_cons, List.cons.injEq] at e
      exact ⟨q :: p :: ps, .swap p q ps, by rw [List.map_cons, List.map_cons, e.1, e.2.1, e.2.2]⟩
  | trans _ _ ih1 ih2 =>
    intro ps e
    obtain ⟨p1, a1, a2⟩ := ih2 ps e
    obtain ⟨p2, b1, b2⟩ := ih1 p1 a2
    exact ⟨p2, b1.trans a1, b2⟩
theorem dpAll_perm {α : Type} (d : α → PyData) {xs ys : List V} {s : List α} (h : DpAll K H xs (s.map d)) (p : ys.Perm xs) : ∃ s' : List α, s'.Perm s ∧ DpAll K H ys (s'.map d) := by
  obtain ⟨zs, e1, e2, e3⟩ := zip_dpAll d h
  obtain ⟨zs', p1, p2⟩ := perm_lift p zs e1
  refine ⟨zs'.map (·.2), by rw [← e2]; exact p1.map _, ?_⟩
  rw [← p2]
  exact dpAll_zip d zs' fun z hz => e3 z (p1.mem_iff.mp hz)
theorem ints_can : ∀ ns : List Int, PyData.canLayAll0 (ns.map PyData.int) = true ∧ PyData.depthAll (ns.map PyData.int) = 0
  | [] => ⟨rfl, rfl⟩
  | n :: ns => by
    obtain ⟨h1, h2⟩ := ints_can ns
    exact ⟨by simp [PyData.canLayAll0, PyData.canLay0, h1], by simp [PyData.depthAll, PyData.depth, h2]⟩
theorem ints_shaped (ns : List Int) : SeqAt.shaped (.list (ns.map PyData.int)) = true := by
  obtain ⟨h1, h2⟩ := ints_can ns
  unfold SeqAt.shaped
  have e2 : PyData.canLay0 (.list (ns.map PyData.int)) = true := by simpa [PyData.canLay0] using h1
  rw [e2, Bool.true_and]
  refine decide_eq_true ?_
  simp only [PyData.depth, h2]
  omega
theorem ints_nil (ns : List Int) : PyData.eqv (.list (ns.map PyData.int)) (.list []) = decide (ns = []) := by cases ns <;> simp [PyData.eqv, PyData.eqvAll]
end
end Gx

set_option Elab.async false
set_option linter.all false
set_option maxRecDepth 100000
set_option maxHeartbeats 4000000
namespace K12
open PySem PySem.Spec PyProof.Rows L2 Evl Gx
abbrev s_is_integer : Stmt := topS 5
theorem sc_is_integer : FnScope ["thing"] ["thing"] (defScope s_is_integer) := ⟨rfl, rfl, rfl, by decide +kernel, rfl, by decide +kernel, by decide +kernel⟩
abbrev s_is_end : Stmt := topS 7
theorem sc_is_end : FnScope ["thing"] ["thing"] (defScope s_is_end) := ⟨rfl, rfl, rfl, by decide +kernel, rfl, by decide +kernel, by decide +kernel⟩
abbrev s_is_pair : Stmt := topS 8
theorem sc_is_pair : FnScope ["thing", "low", "high"] ["thing"] (defScope s_is_pair) := ⟨rfl, rfl, rfl, by decide +kernel, rfl, by decide +kernel, by decide +kernel⟩
abbrev s_are_pairs : Stmt := topS 9
theorem sc_are_pairs : FnScope ["thing", "pair"] ["thing"] (defScope s_are_pairs) := ⟨rfl, rfl, rfl, by decide +kernel, rfl, by decide +kernel, by decide +kernel⟩
def spIsInt (K : PySem.W.Frag) : Sp := fun vs H Q _ => ∃ o : Option Int, vs = [vO o] ∧ Q (.bl o.isSome) H
def spIsEnd (K : PySem.W.Frag) : Sp := fun vs H Q _ => ∃ o : Option Int, vs = [vO o] ∧ Q (.bl true) H
def spIsPair (K : PySem.W.Frag) : Sp := fun vs H Q _ => ∃ (t : Addr) (p : Sx), vs = [.ref t] ∧ SqT K H t [vO p.1, vO p.2] ∧ Spn.ok p ∧ ∀ H', Ex H H' → Q (.bl true) H'
def spArePairs (K : PySem.W.Frag) : Sp := fun vs H Q _ => ∃ (a : Addr) (t : Bool) (s : List Sx), vs = [.ref a] ∧ StsB t K H a s ∧ (∀ p ∈ s, Spn.ok p) ∧ ∀ H', Ex H H' → Q (.bl true) H'
section
variable {P : Program} {w : World} {K : PySem.W.Frag} {mg : Str → Option Value} {base : Heap} {f_is_integer f_is_end f_is_pair : Addr} {fd_is_integer fd_is_end fd_is_pair : FuncData}
theorem ok_is_integer {f : Addr} {fd : FuncData} (D : Def K mg "is_integer" s_is_integer f fd ["thing"]) (bi : Bi mg) :
    FnOk P w K mg base CX0 1 f fd ["thing"] (spIsInt K) := by
  refine D.fn.ok sc_is_integer (fun vs H Q E h => ?_) (fun cdv A outer s0 H vs Q E hr h => ?_)
  · obtain ⟨v, rfl, _⟩ := h
    rfl
  · obtain ⟨o, rfl, k⟩ := h
    obtain ⟨t, ht, h1, h2, h3⟩ := ty_vO (K := K) (H := H) o
    refine ⟨_, (pss_one (ps_ret (pe_and (pe_callB call_isi (by rfl) bi.isinstance bt_isinstance (pa_cons (pv 0) (pa_cons (pe_bltn (v := .ty "int") rfl bi.int bt_int rfl) pa_nil))) (pe_one (pe_not (pe_callB call_isi (by rfl) bi.isinstance bt_isinstance (pa_cons (pv 0) (pa_cons (pe_bltn (v := .ty "bool") rfl bi.bool bt_bool rfl) pa_nil)))))))), ?_⟩
    refine ⟨_, rfl, vO o, .ty "int", t, .type "int", o.isSome, rfl, .ty "int", ht, h1, _, rfl, ?_⟩
    cases o with
    | none => exact if_f rfl k
    | some i => exact if_t rfl ⟨_, rfl, vO (some i), .ty "bool", t, .type "bool", false, rfl, .ty "bool", ht, h2, _, rfl, k⟩
theorem ok_is_end {f : Addr} {fd : FuncData} (D : Def K mg "_is_end" s_is_end f fd ["thing"]) (bi : Bi mg)
    (D_is_integer : Def K mg "is_integer" s_is_integer f_is_integer fd_is_integer ["thing"])
    (G_is_integer : FnOk P w K mg base CX0 1 f_is_integer fd_is_integer ["thing"] (spIsInt K)) :
    FnOk P w K mg base CX0 2 f fd ["thing"] (spIsEnd K) := by
  refine D.fn.ok sc_is_end (fun vs H Q E h => ?_) (fun cdv A outer s0 H vs Q E hr h => ?_)
  · obtain ⟨v, rfl, _⟩ := h
    rfl
  · obtain ⟨o, rfl, k⟩ := h
    refine ⟨_, (pss_one (ps_ret (pe_or (pe_cmpR op_isN (pv 0) pe_non (nomark _)) (pe_one (pe_call G_is_integer (hr.mono (by first | decide | omega)) rfl D_is_integer.mg D_is_integer.fn.kp D_is_integer.bd .nil pass0 (pa_cons (pv 0) pa_nil)))))), ?_⟩
    cases o with
    | none => exact ⟨_, rfl, rfl, _, rfl, if_t rfl k⟩
    | some i => exact ⟨_, rfl, rfl, _, rfl, if_f rfl ⟨_, rfl, some i, rfl, k⟩⟩
theorem ok_is_pair {f : Addr} {fd : FuncData} (D : Def K mg "_is_pair" s_is_pair f fd ["thing"]) (bi : Bi mg)
    (D_is_end : Def K mg "_is_end" s_is_end f_is_end fd_is_end ["thing"])
    (G_is_end : FnOk P w K mg base CX0 2 f_is_end fd_is_end ["thing"] (spIsEnd K)) :
    FnOk P w K mg base CX0 3 f fd ["thing"] (spIsPair K) := by
  refine D.fn.ok sc_is_pair (fun vs H Q E h => ?_) (fun cdv A outer s0 H vs Q E hr h => ?_)
  · obtain ⟨a, p, rfl, _⟩ := h
    rfl
  · obtain ⟨a, ⟨lo, hi⟩, rfl, hs, ho, k⟩ := h
    have k := k H (Ex.refl H)
    refine ⟨_, (pss_cons (ps_if (L2.PW.pt (pw_or (pt_not (pt_val (pe_callB call_isi (by rfl) bi.isinstance bt_isinstance (pa_cons (pv 0) (pa_cons (pe_bltn (v := .ty "tuple") rfl bi.tuple bt_tuple rfl) pa_nil))))) (pw_or1 (pt_cmpR op_ne (pe_callB call_len_seq (by rfl) bi.len bt_len (pa_cons (pv 0) pa_nil)) pe_int (nomark _)))))
    (pss_one (ps_ret pe_bl))
    pss_nil)
  (pss_cons (ps_asg (pv 0) (pg_tup rfl (pgs_cons (pg_name (i := 1) sc_is_pair.nd rfl (Or.inl rfl)) (pgs_cons (pg_name (i := 2) sc_is_pair.nd rfl (Or.inl rfl)) pgs_nil))))
  (pss_cons (ps_if (pt_not (L2.PW.pt (pw_and (pt_val (pe_call G_is_end (hr.mono (by first | decide | omega)) rfl D_is_end.mg D_is_end.fn.kp D_is_end.bd .nil pass0 (pa_cons (pv 1) pa_nil))) (pw_and1 (pt_val (pe_call G_is_end (hr.mono (by first | decide | omega)) rfl D_is_end.mg D_is_end.fn.kp D_is_end.bd .nil pass0 (pa_cons (pv 2) pa_nil)))))))
    (pss_one (ps_ret pe_bl))
    pss_nil)
  (pss_one (ps_ret (pe_or (pe_cmpR op_isN (pv 1) pe_non (nomark _)) (pe_or (pe_cmpR op_isN (pv 2) pe_non (nomark _)) (pe_one (pe_cmpR op_le (pv 1) (pv 2) (nomark _)))))))))), ?_⟩
    refine ⟨_, rfl, .ref a, .ty "tuple", .type "tuple", .type "tuple", true, rfl, .ty "tuple", ty_tup hs, ko_tt, _, rfl, ?_⟩
    refine if_f rfl ⟨_, rfl, a, _, rfl, .inr hs, rfl, _, rfl, ?_⟩
    refine if_nd (fun h => absurd rfl h) fun _ => ?_
    refine ⟨_, rfl, a, _, rfl, hs, rfl, _, _, rfl, _, _, rfl, rfl, ?_⟩
    refine ⟨_, rfl, lo, rfl, _, rfl, ?_⟩
    refine if_t rfl ⟨_, rfl, hi, rfl, _, rfl, ?_⟩
    refine if_f rfl ?_
    cases lo with
    | none => exact ⟨_, rfl, rfl, _, rfl, if_t rfl k⟩
    | some l =>
      refine ⟨_, rfl, rfl, _, rfl, if_f rfl ?_⟩
      cases hi with
      | none => exact ⟨_, rfl, rfl, _, rfl, if_t rfl k⟩
      | some u =>
        refine ⟨_, rfl, rfl, _, rfl, if_f rfl ⟨_, rfl, _, rfl, l, u, rfl, rfl, ?_⟩⟩
        have e : decide (l ≤ u) = true := decide_eq_true (ho l u rfl rfl)
        show Q (.bl (decide (l ≤ u))) H
        rw [e]; exact k
theorem ok_are_pairs {f : Addr} {fd : FuncData} (D : Def K mg "_are_pairs" s_are_pairs f fd ["thing"]) (bi : Bi mg)
    (D_is_pair : Def K mg "_is_pair" s_is_pair f_is_pair fd_is_pair ["thing"])
    (G_is_pair : FnOk P w K mg base CX0 3 f_is_pair fd_is_pair ["thing"] (spIsPair K)) :
    FnOk P w K mg base CX0 4 f fd ["thing"] (spArePairs K) := by
  refine D.fn.ok sc_are_pairs (fun vs H Q E h => ?_) (fun cdv A outer s0 H vs Q E hr h => ?_)
  · obtain ⟨a, t, s, rfl, _⟩ := h
    rfl
  · obtain ⟨a, t, s, rfl, ⟨xs, hq, hd⟩, ho, k⟩ := h
    refine ⟨_, (pss_cons (ps_if (pt_not (pt_val (pe_callB call_isiT (by rfl) bi.isinstance bt_isinstance (pa_cons (pv 0) (pa_cons (pe_tup (pa_cons (pe_bltn (v := .ty "list") rfl bi.list bt_list rfl) (pa_cons (pe_bltn (v := .ty "tuple") rfl bi.tuple bt_tuple rfl) pa_nil))) pa_nil)))))
    (pss_one (ps_ret pe_bl))
    pss_nil)
  (pss_cons (ps_for PassesOwn.never rfl (pi_seq (K := K) rfl (pv 0)) (pg_name (i := 1) sc_are_pairs.nd rfl (Or.inl rfl))
    (pss_one (ps_if (pt_not (pt_val (pe_call G_is_pair (hr.mono (by first | decide | omega)) rfl D_is_pair.mg D_is_pair.fn.kp D_is_pair.bd .nil pass0 (pa_cons (pv 1) pa_nil))))
      (pss_one (ps_ret pe_bl))
      pss_nil)))
  (pss_one (ps_ret pe_bl)))), ?_⟩
    have ty : ∃ T, (∀ H', Ex H H' → TyX K H' (.ref a) T) ∧ PySem.W.kitAny K T [.type "list", .type "tuple"] = some true := by
      cases t
      · exact ⟨_, fun H' e => ty_lst (ex_l e hq), kitAny_cons ko_ll (r := true) (fun h => by cases h) fun _ => rfl⟩
      · exact ⟨_, fun H' e => ty_tup (ex_t e hq), kitAny_cons ko_tl (r := true) (fun _ => kitAny_cons ko_tt (r := true) (fun h => by cases h) fun _ => rfl) fun h => by cases h⟩
    obtain ⟨T, ty, ka⟩ := ty
    refine ⟨_, rfl, sz2, fun tp np => ⟨_, tp, _, T, [.type "list", .type "tuple"], true, rfl, upd_same, .cons (.ty "list") (.cons (.ty "tuple") .nil), ty _ (Ex.new np), ka, _, rfl, ?_⟩⟩
    refine if_f rfl ?_
    have e1 : Ex H (upd H tp (.tup [.ty "list", .ty "tuple"])) := Ex.new np
    generalize upd H tp (.tup [.ty "list", .ty "tuple"]) = H1 at e1 ⊢
    refine ⟨_, rfl, a, t, xs, rfl, hq.to e1, ?_⟩
    refine for_seq (fun i σ H' => ∃ x1 : Option V, σ = [some (.ref a), x1] ∧ Ex H H') ?_ (fun i σ H' _ ⟨_, _, e⟩ => hq.to e) ?_ ?_
    · exact ⟨none, rfl, e1⟩
    · rintro i x σ H2 hx ⟨x1, rfl, e2⟩
      obtain ⟨p, q, hp, rfl, hs⟩ := sts_get hd hx
      refine ⟨_, rfl, q, p, rfl, ex_t e2 hs, ho p (List.mem_of_getElem? hp), fun H3 e3 => ⟨_, rfl, ?_⟩⟩
      exact if_f rfl ⟨_, rfl, e2.trans e3⟩
    · rintro σ H2 ⟨x1, rfl, e2⟩
      exact k H2 e2
end
end K12

set_option Elab.async false
set_option linter.all false
set_option maxRecDepth 100000
set_option maxHeartbeats 4000000
namespace K12
open PySem PySem.Spec PyProof.Rows L2 Evl Gx
abbrev s_low : Stmt := topS 10
theorem sc_low : FnScope ["pair"] ["pair"] (defScope s_low) := ⟨rfl, rfl, rfl, by decide +kernel, rfl, by decide +kernel, by decide +kernel⟩
abbrev s_in_order : Stmt := topS 11
theorem sc_in_order : FnScope ["pairs", "endless", "pair"] ["pairs"] (defScope s_in_order) := ⟨rfl, rfl, rfl, by decide +kernel, rfl, by decide +kernel, by decide +kernel⟩
abbrev s_joined : Stmt := topS 12
theorem sc_joined : FnScope ["pairs", "ordered", "found", "first", "last", "low", "high"] ["pairs"] (defScope s_joined) := ⟨rfl, rfl, rfl, by decide +kernel, rfl, by decide +kernel, by decide +kernel⟩
def spInOrder (K : PySem.W.Frag) : Sp := fun vs H Q _ => ∃ (a : Addr) (t : Bool) (s : List Sx), vs = [.ref a] ∧ StsB t K H a s ∧ s.length ≤ 100000 ∧
  ∀ l ys H', Ex H H' → H' l = some (.lst ys) → H l = none → DpAll K H' ys ((Spn.ordered s).map dSt) → Q (.ref l) H'
def spJoined (K : PySem.W.Frag) : Sp := fun vs H Q _ => ∃ (a : Addr) (t : Bool) (s : List Sx), vs = [.ref a] ∧ StsB t K H a s ∧ s.length ≤ 100000 ∧
  ∀ l H', Ex H H' → StsB true K H' l (Spn.joined s) → Q (.ref l) H'
theorem fm_filter (c : Sx → Bool) (s : List Sx) : s.filterMap (fun p => if c p = true then some (dSt p) else none) = (s.filter c).map dSt := by
  induction s with
  | nil => rfl
  | cons p s ih =>
    rw [List.filterMap_cons, List.filter_cons, ih]
    cases c p <;> simp
section
variable {P : Program} {w : World} {K : PySem.W.Frag} {mg : Str → Option Value} {base : Heap} {f_low f_in_order : Addr} {fd_low fd_in_order : FuncData}
theorem ok_in_order {f : Addr} {fd : FuncData} (D : Def K mg "_in_order" s_in_order f fd ["pairs"]) (bi : Bi mg)
    (D_low : Def K mg "_low" s_low f_low fd_low ["pair"]) :
    FnOk P w K mg base CX0 4 f fd ["pairs"] (spInOrder K) := by
  refine D.fn.ok sc_in_order (fun vs H Q E h => ?_) (fun cdv A outer s0 H vs Q E hr h => ?_)
  · obtain ⟨a, t, s, rfl, _⟩ := h
    rfl
  · obtain ⟨a, t, s, rfl, ⟨xs, hq, hd⟩, hz, k⟩ := h
    have hl := sts_len hd
    refine ⟨_, (pss_cons (ps_setLc (i := 1) (own := [("pair", 2)]) rfl sc_in_order.nd rfl rfl (sw_true rfl rfl rfl (by decide +kernel)) (pi_seq (K := K) rfl (pv 0)) (blkOk_by (N := ["pairs", "endless", "pair"]) (sc := defScope s_in_order) (by decide +kernel)) (fun _ _ _ _ _ => (pg_name (i := 2) sc_in_order.nd rfl (Or.inl rfl))) (fun _ _ _ _ _ => (pts_one (pt_cmpR op_isN (pe_ix (ix_tupK (K := K) rfl) (pv 2) pe_int (fun _ _ => rfl)) pe_non (nomark _)))) (fun _ _ _ _ _ => (pv 2)))
  (pss_one (ps_ret (pe_op op_cat (pv 1) (pe_callBK (cr_sortedLow D_low.fn sc_low D_low.bd rfl rfl rfl (hr.mono (by first | decide | omega))) rfl bi.sorted bt_sorted (pa_cons (pe_lc (own := [("pair", 2)]) rfl sc_in_order.nd (pi_seq (K := K) rfl (pv 0)) (blkOk_by (N := ["pairs", "endless", "pair"]) (sc := defScope s_in_order) (by decide +kernel)) (fun _ _ _ _ _ => (pg_name (i := 2) sc_in_order.nd rfl (Or.inl rfl))) (fun _ _ _ _ _ => (pts_one (pt_cmpR op_notN (pe_ix (ix_tupK (K := K) rfl) (pv 2) pe_int (fun _ _ => rfl)) pe_non (nomark _)))) (fun _ _ _ _ _ => (pv 2))) pa_nil) (pk_cons (pe_glob (v := .ref f_low) rfl D_low.mg rfl) pk_nil)))))), ?_⟩
    refine ⟨_, rfl, a, t, xs, rfl, hq, fun d1 n1 => ?_⟩
    refine lc_dp (fun i => (s[i]?).bind fun p => if p.1.isNone = true then some (dSt p) else none) n1 hq (small (by omega)) ?_ ?_
    · rintro i x H1 N M hx e1 hN hM
      obtain ⟨p, q, hp, rfl, hs⟩ := sts_get hd hx
      refine ⟨rfl, _, rfl, q, _, 0, _, rfl, rfl, ex_t e1 hs, rfl, rfl, _, rfl, ?_⟩
      have ho : (s[i]?).bind (fun p => if p.1.isNone = true then some (dSt p) else none) = if p.1.isNone = true then some (dSt p) else none := by rw [hp]; rfl
      obtain ⟨lo, hi⟩ := p
      cases lo with
      | none => exact if_t rfl ⟨_, rfl, hN _ _ _ (Ex.refl _) ho (dSt_flat _) (dSt_mk (ex_t e1 hs))⟩
      | some l => exact if_f rfl (hM ho _ (Ex.refl _))
    · intro H1 ys1 e1 hy1 hp1
      rw [hl, outs_bind, fm_filter] at hp1
      have e01 : Ex H H1 := e1
      refine ⟨_, rfl, _, rfl, a, t, xs, rfl, hq.to e1, fun d2 n2 => ?_⟩
      refine lc_dp (fun i => (s[i]?).bind fun p => if p.1.isSome = true then some (dSt p) else none) n2 (hq.to e1) (small (by omega)) ?_ ?_
      · rintro i x H2 N M hx e2 hN hM
        obtain ⟨p, q, hp, rfl, hs⟩ := sts_get hd hx
        have hs := ex_t e2 (ex_t e1 hs)
        refine ⟨rfl, _, rfl, q, _, 0, _, rfl, rfl, hs, rfl, rfl, _, rfl, ?_⟩
        have ho : (s[i]?).bind (fun p => if p.1.isSome = true then some (dSt p) else none) = if p.1.isSome = true then some (dSt p) else none := by rw [hp]; rfl
        obtain ⟨lo, hi⟩ := p
        cases lo with
        | none => exact if_f rfl (hM ho _ (Ex.refl _))
        | some l => exact if_t rfl ⟨_, rfl, hN _ _ _ (Ex.refl _) ho (dSt_flat _) (dSt_mk hs)⟩
      · intro H2 ys2 e2 hy2 hp2
        rw [hl, outs_bind, fm_filter] at hp2
        show rSortedLow K f_low [V.ref d2] [V.ref f_low] H2 (fun y H2 => rCat (V.ref d1) y H2 Q)
        refine sorted_low (SqL.of hy2) hp2 (fun p hp => (List.mem_filter.mp hp).2) fun l3 ws n3 hw hp3 => ?_
        have e3 : Ex H2 (upd H2 l3 (.lst ws)) := Ex.new n3
        have hy1' := e3 _ _ (e2 _ _ hy1)
        have hz1 := (List.length_filter_le (fun p : Sx => p.1.isNone) s)
        have hz2 := (List.length_filter_le (fun p : Sx => p.1.isSome) s)
        have l1 := hp1.len
        rw [List.length_map] at l1
        refine ⟨_, _, _, _, rfl, rfl, hy1', upd_same, ?_, fun d4 n4 => ?_⟩
        · rw [sizeLine_eq]; omega
        · have e4 : Ex (upd H2 l3 (.lst ws)) (upd (upd H2 l3 (.lst ws)) d4 (.lst (ys1 ++ ws))) := Ex.new n4
          refine k d4 _ _ (((e1.trans e2).trans e3).trans e4) upd_same ?_ ?_
          · exact fresh_back ((e1.trans e2).trans e3) n4
          · unfold Spn.ordered
            rw [List.map_append]
            exact ((hp1.to e2).to (e3.trans e4)).app (hp3.to e4)
end
end K12

set_option Elab.async false
set_option linter.all false
set_option maxRecDepth 100000
set_option maxHeartbeats 4000000
namespace K12
open PySem PySem.Spec PyProof.Rows L2 Evl Gx
section
variable {P : Program} {w : World} {K : PySem.W.Frag} {mg : Str → Option Value} {base : Heap} {f_low f_in_order : Addr} {fd_low fd_in_order : FuncData}
theorem ok_joined {f : Addr} {fd : FuncData} (D : Def K mg "_joined" s_joined f fd ["pairs"]) (bi : Bi mg)
    (D_in_order : Def K mg "_in_order" s_in_order f_in_order fd_in_order ["pairs"])
    (G_in_order : FnOk P w K mg base CX0 4 f_in_order fd_in_order ["pairs"] (spInOrder K)) :
    FnOk P w K mg base CX0 5 f fd ["pairs"] (spJoined K) := by
  refine D.fn.ok sc_joined (fun vs H Q E h => ?_) (fun cdv A outer s0 H vs Q E hr h => ?_)
  · obtain ⟨a, t, s, rfl, _⟩ := h
    rfl
  · obtain ⟨a, t, s, rfl, ⟨xs, hq, hd⟩, hz, k⟩ := h
    have hl := sts_len hd
    refine ⟨_, (pss_cons (ps_if (pt_cmpR op_lt (pe_callB call_len_seq (by rfl) bi.len bt_len (pa_cons (pv 0) pa_nil)) pe_int (nomark _))
    (pss_one (ps_ret (pe_callTy call_tuple_of (by rfl) bi.tuple bt_tuple (pa_cons (pv 0) pa_nil))))
    pss_nil)
  (pss_cons (ps_set (i := 1) sc_joined.nd rfl (Or.inl rfl) (pe_call G_in_order (hr.mono (by first | decide | omega)) rfl D_in_order.mg D_in_order.fn.kp D_in_order.bd .nil pass0 (pa_cons (pv 0) pa_nil)))
  (pss_cons (ps_set (i := 2) sc_joined.nd rfl (Or.inl rfl) (pe_lst pa_nil))
  (pss_cons (ps_asg (pe_ix (ix_listK (K := K) rfl) (pv 1) pe_int (fun _ _ => rfl)) (pg_tup rfl (pgs_cons (pg_name (i := 3) sc_joined.nd rfl (Or.inl rfl)) (pgs_cons (pg_name (i := 4) sc_joined.nd rfl (Or.inl rfl)) pgs_nil))))
  (Evl.pss_cut (ps_for PassesOwn.never rfl (pi_list (pe_slice sl_list (pv 1) (po_some pe_int) po_none)) (pg_tup rfl (pgs_cons (pg_name (i := 5) sc_joined.nd rfl (Or.inl rfl)) (pgs_cons (pg_name (i := 6) sc_joined.nd rfl (Or.inl rfl)) pgs_nil)))
    (pss_cons (ps_if (pt_cmpR op_isN (pv 4) pe_non (nomark _))
      (pss_one ps_break)
      pss_nil)
    (pss_one (ps_if (L2.PW.pt (pw_and (pt_cmpR op_notN (pv 5) pe_non (nomark _)) (pw_and1 (pt_cmpR op_gt (pv 5) (pe_op op_add (pv 4) pe_int) (nomark _)))))
      (pss_cons (ps_expr (pe_bm PySem.F.plainAttrs_list PySem.F.slot_list_append PySem.F.type_list_append mt_append (pv 2) (pa_cons (pe_tup (pa_cons (pv 3) (pa_cons (pv 4) pa_nil))) pa_nil)))
      (pss_one (ps_par (i := 3) (j := 4) rfl sc_joined.nd rfl rfl (by decide) rfl rfl (pa_cons (pv 5) (pa_cons (pv 6) pa_nil)) (by rfl))))
      (pss_one (ps_if (L2.PW.pt (pw_or (pt_cmpR op_isN (pv 6) pe_non (nomark _)) (pw_or1 (pt_cmpR op_gt (pv 6) (pv 4) (nomark _)))))
        (pss_one (ps_set (i := 4) sc_joined.nd rfl (Or.inl rfl) (pv 6)))
        pss_nil))))))
  (pss_cons (ps_expr (pe_bm PySem.F.plainAttrs_list PySem.F.slot_list_append PySem.F.type_list_append mt_append (pv 2) (pa_cons (pe_tup (pa_cons (pv 3) (pa_cons (pv 4) pa_nil))) pa_nil)))
  (pss_one (ps_ret (pe_callTy call_tuple_of (by rfl) bi.tuple bt_tuple (pa_cons (pv 2) pa_nil)))))))))), ?_⟩
    refine ⟨_, rfl, a, xs, rfl, hq.or, xs.length, 2, rfl, rfl, _, rfl, ?_⟩
    refine if_d (fun h2 => ?_) (fun h2 => ?_)
    · have ej : Spn.joined s = s := by unfold Spn.joined; rw [if_pos (by omega)]
      rw [ej] at k
      refine ⟨_, rfl, a, xs, rfl, ?_⟩
      cases t
      · exact .inl ⟨hq, fun l nl => k l _ (Ex.new nl) ⟨xs, SqT.of upd_same, hd.to (Ex.new nl)⟩⟩
      · exact .inr ⟨hq, k a H (Ex.refl H) ⟨xs, hq, hd⟩⟩
    · refine ⟨_, rfl, a, t, s, rfl, ⟨xs, hq, hd⟩, hz, fun l1 ys H1 e1 hy n1 hp => ?_⟩
      have op := Spn.ordered_perm s
      have ol := op.length_eq
      have yl := sts_len hp
      obtain ⟨c, r, er⟩ : ∃ c r, Spn.ordered s = c :: r := by
        cases e : Spn.ordered s with
        | nil => rw [e] at ol; simp at ol; omega
        | cons c r => exact ⟨c, r, rfl⟩
      have ej : Spn.joined s = Spn.joinGo c r := by unfold Spn.joined; rw [if_neg (by omega), er]
      rw [er] at hp yl
      obtain ⟨v, ys', ey⟩ : ∃ v ys', ys = v :: ys' := by
        cases ys with
        | nil => simp at yl
        | cons v ys' => exact ⟨v, ys', rfl⟩
      subst ey
      obtain ⟨q0, ex0, hq0⟩ := sts_get' hp (i := 0) (p := c) rfl
      have rl : r.length + 1 = s.length := by rw [← ol, er]; rfl
      refine ⟨Nat.zero_le _, fun F nF => ?_⟩
      have e2 : Ex H1 (upd H1 F (.lst [])) := Ex.new nF
      have hF : upd H1 F (.lst []) F = some (.lst []) := upd_same
      have hy2 := e2 _ _ hy
      have nFH : H F = none := fresh_back e1 nF
      have lF : l1 ≠ F := fun z => by subst z; rw [hy] at nF; cases nF
      have hp2 := hp.to e2
      have hq2 := ex_t e2 hq0
      generalize upd H1 F (.lst []) = H2 at e2 hF hy2 hp2 hq2 ⊢
      refine ⟨_, rfl, l1, _, 0, .ref q0, rfl, rfl, SqL.of hy2, ?_, q0, _, rfl, hq2, rfl, _, _, rfl, _, _, rfl, rfl, ?_⟩
      · simp at ex0; subst ex0; exact atI_of (by decide) rfl
      -- the state behind the loop
      refine ⟨fun σ H' => ∃ (f g : Option Int) (x5 x6 : Option V) (dn : List Sx) (ws : List V), σ = [some (.ref a), some (.ref l1), some (.ref F), some (vO f), some (vO g), x5, x6] ∧
        Ex H H' ∧ H' F = some (.lst ws) ∧ DpAll K H' ws (dn.map dSt) ∧ dn.length ≤ r.length ∧ Spn.joined s = dn ++ [(f, g)], ?_, ?_⟩
      · refine ⟨_, rfl, 1, rfl, l1, v :: ys', rfl, SqL.of hy2, fun l2 n2 => ?_⟩
        have cut : cutV (v :: ys') (some 1) none = ys' := by
          unfold cutV
          rw [show HT.sIx (v :: ys').length 0 (some 1) = min 1 (ys'.length + 1) from rfl, show HT.sIx (v :: ys').length (v :: ys').length none = ys'.length + 1 from rfl]
          have : min 1 (ys'.length + 1) = 1 := by omega
          rw [this]
          simp
        rw [cut]
        have e3 : Ex H2 (upd H2 l2 (.lst ys')) := Ex.new n2
        have l2F : l2 ≠ F := fun z => by subst z; rw [hF] at n2; cases n2
        have hF3 := e3 _ _ hF
        have hl2 : upd H2 l2 (.lst ys') l2 = some (.lst ys') := upd_same
        have hp3 : DpAll K (upd H2 l2 (.lst ys')) ys' (r.map dSt) := by
          cases hp2 with
          | cons _ h => exact h.to e3
        generalize upd H2 l2 (.lst ys') = H3 at e3 hF3 hl2 hp3 ⊢
        have e03 : Ex H H3 := (e1.trans e2).trans e3
        have hl := sts_len hp3
        refine ⟨l2, rfl, ⟨_, SqL.of hl2⟩, ?_⟩
        refine for_list (xs := ys') (fun i σ H' => ∃ (f g : Option Int) (x5 x6 : Option V) (dn : List Sx) (ws : List V), σ = [some (.ref a), some (.ref l1), some (.ref F), some (vO f), some (vO g), x5, x6] ∧
          ExB F H3 H' ∧ H' F = some (.lst ws) ∧ DpAll K H' ws (dn.map dSt) ∧ dn.length ≤ i ∧ Spn.joined s = dn ++ Spn.joinGo (f, g) (r.drop i)) ?_ (fun i σ H' _ p => ?_) ?_ ?_
        · exact ⟨c.1, c.2, none, none, [], [], rfl, .of (Ex.refl _), hF3, .nil, Nat.le_refl _, by rw [ej]; rfl⟩
        · obtain ⟨_, _, _, _, _, _, _, e, _⟩ := p
          exact SqL.of (e _ _ l2F hl2)
        · rintro i x σ H4 hx ⟨f, g, x5, x6, dn, ws, rfl, e4, hF4, hp4, hdn, ej4⟩
          obtain ⟨⟨lo, hi⟩, q, hp, rfl, hs⟩ := sts_get hp3 hx
          have ei : ExI H3 H4 := e4.toI hF3
          have hs4 := ei.sq hs
          have il : i < r.length := (List.getElem?_eq_some_iff.mp hp).1
          have ed : r.drop i = (lo, hi) :: r.drop (i + 1) := by
            rw [List.drop_eq_getElem_cons il]
            have : r[i] = (lo, hi) := by rw [List.getElem?_eq_getElem il] at hp; exact Option.some.inj hp
            rw [this]
          rw [ed] at ej4
          refine ⟨q, _, rfl, hs4, rfl, _, _, rfl, _, _, rfl, rfl, ?_⟩
          cases g with
          | none =>
            refine ⟨_, rfl, rfl, _, rfl, if_t rfl ?_⟩
            exact ⟨f, none, _, _, dn, ws, rfl, exB_ex e4 e03 nFH, hF4, hp4, by omega, by rw [ej4]; rfl⟩
          | some l =>
            refine ⟨_, rfl, rfl, _, rfl, if_f rfl ?_⟩
            -- the stretch that is looked at grows, or stays
            have grow : Spn.joinGo (f, some l) ((lo, hi) :: r.drop (i + 1)) = Spn.joinGo (f, hi) (r.drop (i + 1)) → ∃ (f' g' : Option Int) (x5 x6 : Option V) (dn : List Sx) (ws : List V),
                [some (.ref a), some (.ref l1), some (.ref F), some (vO f), some (vO hi), some (vO lo), some (vO hi)] = [some (.ref a), some (.ref l1), some (.ref F), some (vO f'), some (vO g'), x5, x6] ∧
                ExB F H3 H4 ∧ H4 F = some (.lst ws) ∧ DpAll K H4 ws (dn.map dSt) ∧ dn.length ≤ i + 1 ∧ Spn.joined s = dn ++ Spn.joinGo (f', g') (r.drop (i + 1)) := fun e =>
              ⟨f, hi, _, _, dn, ws, rfl, e4, hF4, hp4, by omega, by rw [ej4, e]⟩
            have stay : Spn.joinGo (f, some l) ((lo, hi) :: r.drop (i + 1)) = Spn.joinGo (f, some l) (r.drop (i + 1)) → ∃ (f' g' : Option Int) (x5 x6 : Option V) (dn : List Sx) (ws : List V),
                [some (.ref a), some (.ref l1), some (.ref F), some (vO f), some (vO (some l)), some (vO lo), some (vO hi)] = [some (.ref a), some (.ref l1), some (.ref F), some (vO f'), some (vO g'), x5, x6] ∧
                ExB F H3 H4 ∧ H4 F = some (.lst ws) ∧ DpAll K H4 ws (dn.map dSt) ∧ dn.length ≤ i + 1 ∧ Spn.joined s = dn ++ Spn.joinGo (f', g') (r.drop (i + 1)) := fun e =>
              ⟨f, some l, _, _, dn, ws, rfl, e4, hF4, hp4, by omega, by rw [ej4, e]⟩
            cases lo with
            | none =>
              refine ⟨_, rfl, rfl, _, rfl, if_f rfl ?_⟩
              cases hi with
              | none => exact ⟨_, rfl, rfl, _, rfl, if_t rfl ⟨_, rfl, grow (by rw [Spn.joinGo])⟩⟩
              | some u =>
                refine ⟨_, rfl, rfl, _, rfl, if_f rfl ⟨_, rfl, _, rfl, u, l, rfl, rfl, _, rfl, ?_⟩⟩
                refine if_d (fun h => ⟨_, rfl, grow ?_⟩) fun h => stay ?_
                · rw [Spn.joinGo, if_pos h]
                · rw [Spn.joinGo, if_neg h]
            | some b =>
              refine ⟨_, rfl, rfl, _, rfl, if_t rfl ⟨_, rfl, _, rfl, l, 1, rfl, rfl, b, l + 1, rfl, rfl, _, rfl, ?_⟩⟩
              refine if_d (fun h => ?_) fun h => ?_
              · refine ⟨_, rfl, .inl ⟨rfl, _, SqL.of hF4⟩, _, rfl, _, rfl, sz2, fun tp np => ?_⟩
                have e5 : Ex H4 (upd H4 tp (.tup [vO f, vO (some l)])) := Ex.new np
                have ht5 : upd H4 tp (.tup [vO f, vO (some l)]) tp = some (.tup [vO f, vO (some l)]) := upd_same
                generalize upd H4 tp (.tup [vO f, vO (some l)]) = H5 at e5 ht5 ⊢
                have hF5 := e5 _ _ hF4
                have wl := sts_len hp4
                refine ⟨F, ws, _, rfl, rfl, hF5, ?_, ?_⟩
                · rw [sizeLine_eq]; omega
                · refine ⟨_, rfl, _, rfl, _, _, rfl, some b, hi, _, _, dn ++ [(f, some l)], ws ++ [.ref tp], rfl, ?_, upd_same, ?_, by simp; omega, ?_⟩
                  · exact (e4.trans (.of e5)).trans .put
                  · rw [List.map_append]
                    have e6 : ExI H5 (upd H5 F (.lst (ws ++ [.ref tp]))) := ExI.put hF5 rfl
                    exact (dpAll_exI e6 _ _ (dSts_flat _) (hp4.to e5)).app (.one (dp_exI e6 _ _ (dSt_flat (f, some l)) (dSt_mk (p := (f, some l)) (SqT.of ht5))))
                  · have ee : Spn.joinGo (f, some l) ((some b, hi) :: r.drop (i + 1)) = (f, some l) :: Spn.joinGo (some b, hi) (r.drop (i + 1)) := by
                      conv => lhs; unfold Spn.joinGo
                      rw [if_pos h]
                    rw [ej4, ee, List.append_assoc]; rfl
              · cases hi with
                | none => exact ⟨_, rfl, rfl, _, rfl, if_t rfl ⟨_, rfl, grow (by rw [Spn.joinGo, if_neg h])⟩⟩
                | some u =>
                  refine ⟨_, rfl, rfl, _, rfl, if_f rfl ⟨_, rfl, _, rfl, u, l, rfl, rfl, _, rfl, ?_⟩⟩
                  refine if_d (fun h' => ⟨_, rfl, grow ?_⟩) fun h' => stay ?_
                  · rw [Spn.joinGo, if_neg h]; rw [if_pos h']
                  · rw [Spn.joinGo, if_neg h]; rw [if_neg h']
        · rintro σ H4 ⟨f, g, x5, x6, dn, ws, rfl, e4, hF4, hp4, hdn, ej4⟩
          refine ⟨f, g, x5, x6, dn, ws, rfl, exB_ex e4 e03 nFH, hF4, hp4, by omega, ?_⟩
          rw [ej4, List.drop_of_length_le (by omega)]
          rw [Spn.joinGo]
      · rintro σ H4 ⟨f, g, x5, x6, dn, ws, rfl, e4, hF4, hp4, hdn, ej4⟩
        have wl := sts_len hp4
        have rl : r.length + 1 = s.length := by rw [← ol, er]; rfl
        refine ⟨_, rfl, .inl ⟨rfl, _, SqL.of hF4⟩, _, rfl, _, rfl, sz2, fun tp np => ?_⟩
        have e5 : Ex H4 (upd H4 tp (.tup [vO f, vO g])) := Ex.new np
        have ht5 : upd H4 tp (.tup [vO f, vO g]) tp = some (.tup [vO f, vO g]) := upd_same
        generalize upd H4 tp (.tup [vO f, vO g]) = H5 at e5 ht5 ⊢
        have hF5 := e5 _ _ hF4
        refine ⟨F, ws, _, rfl, rfl, hF5, ?_, ?_⟩
        · rw [sizeLine_eq]; omega
        · have e6 : ExI H5 (upd H5 F (.lst (ws ++ [.ref tp]))) := ExI.put hF5 rfl
          have hp6 : DpAll K (upd H5 F (.lst (ws ++ [.ref tp]))) (ws ++ [.ref tp]) ((Spn.joined s).map dSt) := by
            rw [ej4, List.map_append]
            exact (dpAll_exI e6 _ _ (dSts_flat _) (hp4.to e5)).app (.one (dp_exI e6 _ _ (dSt_flat (f, g)) (dSt_mk (p := (f, g)) (SqT.of ht5))))
          have e7 : Ex H (upd H5 F (.lst (ws ++ [.ref tp]))) := (e4.trans e5).mut nFH
          refine ⟨_, rfl, F, _, rfl, .inl ⟨SqL.of upd_same, fun l nl => ?_⟩⟩
          exact k l _ (e7.trans (Ex.new nl)) ⟨_, SqT.of upd_same, hp6.to (Ex.new nl)⟩
end
end K12

set_option Elab.async false
set_option linter.all false
set_option maxRecDepth 100000
set_option maxHeartbeats 4000000
namespace K12
open PySem PySem.Spec PyProof.Rows L2 Evl Gx RZ
abbrev s_gaps : Stmt := topS 13
theorem sc_gaps : FnScope ["stretches", "first", "last", "below", "between", "one", "other", "above"] ["stretches"] (defScope s_gaps) := ⟨rfl, rfl, rfl, by decide +kernel, rfl, by decide +kernel, by decide +kernel⟩
def spGaps (K : PySem.W.Frag) : Sp := fun vs H Q _ => ∃ (a : Addr) (s : List Sx), vs = [.ref a] ∧ StsB true K H a s ∧ Spn.Canon s ∧ s.length ≤ 100000 ∧
  ∀ l ys H', Ex H H' → H' l = some (.lst ys) → DpAll K H' ys ((Spn.gaps s).map dSt) → Q (.ref l) H'
theorem betw_fm (s : List Sx) : (s.zip s.tail).filterMap (fun z : Sx × Sx => some (dSt (z.1.2.map (· + 1), z.2.1.map (· - 1)))) = (Spn.betw s).map dSt := by
  unfold Spn.betw
  rw [List.map_map]
  generalize s.zip s.tail = l
  induction l with
  | nil => rfl
  | cons z l ih => rw [List.filterMap_cons]; simp only [List.map_cons]; rw [ih]; rfl
section
variable {P : Program} {w : World} {K : PySem.W.Frag} {mg : Str → Option Value} {base : Heap}
theorem ok_gaps {f : Addr} {fd : FuncData} (D : Def K mg "_gaps" s_gaps f fd ["stretches"]) (bi : Bi mg) :
    FnOk P w K mg base CX0 1 f fd ["stretches"] (spGaps K) := by
  refine D.fn.ok sc_gaps (fun vs H Q E h => ?_) (fun cdv A outer s0 H vs Q E hr h => ?_)
  · obtain ⟨a, s, rfl, _⟩ := h
    rfl
  · obtain ⟨a, s, rfl, ⟨xs, hq, hd⟩, cn, hz, k⟩ := h
    have hl := sts_len hd
    refine ⟨_, (pss_cons (ps_if (pt_cmpR op_eq (pe_callB call_len_seq (by rfl) bi.len bt_len (pa_cons (pv 0) pa_nil)) pe_int (nomark _))
    (pss_one (ps_ret (pe_lst (pa_cons (pe_tup (pa_cons pe_non (pa_cons pe_non pa_nil))) pa_nil))))
    pss_nil)
  (pss_cons (ps_par (i := 1) (j := 2) rfl sc_gaps.nd rfl rfl (by decide) rfl rfl (pa_cons (pe_ix (ix_tupK (K := K) rfl) (pe_ix (ix_tupK (K := K) rfl) (pv 0) pe_int (fun _ _ => rfl)) pe_int (fun _ _ => rfl)) (pa_cons (pe_ix (ix_tupK (K := K) rfl) (pe_ix (ix_tupK (K := K) rfl) (pv 0) (pe_un un_neg pe_int) (fun _ _ => rfl)) pe_int (fun _ _ => rfl)) pa_nil)) (by rfl))
  (Evl.pss_cut (ps_set (i := 3) sc_gaps.nd rfl (Or.inl rfl) (pe_ifExp (pt_cmpR op_isN (pv 1) pe_non (nomark _)) (pe_lst pa_nil) (pe_lst (pa_cons (pe_tup (pa_cons pe_non (pa_cons (pe_op op_sub (pv 1) pe_int) pa_nil))) pa_nil))))
  (pss_cons (ps_setLc (i := 4) (own := [("one", 5), ("other", 6)]) (g := gTup K 2 (gCons (gName 5) (gCons (gName 6) gNil))) rfl sc_gaps.nd rfl rfl (sw_true rfl rfl rfl (by decide +kernel)) (pi_zipA rfl bi.zip (pa_cons (pv 0) (pa_cons (pe_slice sl_tupA (pv 0) (po_some pe_int) po_none) pa_nil))) (blkOk_by (N := ["stretches", "first", "last", "below", "between", "one", "other", "above"]) (sc := defScope s_gaps) (by decide +kernel)) (fun _ _ _ _ _ => (pg_tup rfl (pgs_cons (pg_name (i := 5) sc_gaps.nd rfl (Or.inl rfl)) (pgs_cons (pg_name (i := 6) sc_gaps.nd rfl (Or.inl rfl)) pgs_nil)))) (fun _ _ _ _ _ => pts_nil) (fun _ _ _ _ _ => (pe_tup (pa_cons (pe_op op_add (pe_ix (ix_tupK (K := K) rfl) (pv 5) pe_int (fun _ _ => rfl)) pe_int) (pa_cons (pe_op op_sub (pe_ix (ix_tupK (K := K) rfl) (pv 6) pe_int (fun _ _ => rfl)) pe_int) pa_nil)))))
  (Evl.pss_cut (ps_set (i := 7) sc_gaps.nd rfl (Or.inl rfl) (pe_ifExp (pt_cmpR op_isN (pv 2) pe_non (nomark _)) (pe_lst pa_nil) (pe_lst (pa_cons (pe_tup (pa_cons (pe_op op_add (pv 2) pe_int) (pa_cons pe_non pa_nil))) pa_nil))))
  (pss_one (ps_ret (pe_op op_cat (pe_op op_cat (pv 3) (pv 4)) (pv 7))))))))), ?_⟩
    refine ⟨_, rfl, a, xs, rfl, .inr hq, rfl, _, rfl, ?_⟩
    by_cases h0 : s = []
    · subst h0
      have : xs = [] := by cases xs with | nil => rfl | cons _ _ => simp at hl
      subst this
      refine if_t rfl ⟨sz2, fun p np => ⟨sz1, fun l nl => ?_⟩⟩
      refine k l _ _ ((Ex.new np).trans (Ex.new nl)) upd_same ?_
      exact .one (dSt_mk (p := (none, none)) (SqT.of ((Ex.new nl) _ _ upd_same)))
    · obtain ⟨p0, r, rfl⟩ : ∃ p r, s = p :: r := by cases s with | nil => exact absurd rfl h0 | cons p r => exact ⟨p, r, rfl⟩
      obtain ⟨pl, hpl⟩ : ∃ pl, (p0 :: r).getLast? = some pl := ⟨_, List.getLast?_eq_some_getLast (List.cons_ne_nil _ _)⟩
      have hlast : (p0 :: r)[(p0 :: r).length - 1]? = some pl := by rw [← List.getLast?_eq_getElem?]; exact hpl
      obtain ⟨q0, x0, s0'⟩ := sts_get' hd (i := 0) (p := p0) rfl
      obtain ⟨ql, xl, sl⟩ := sts_get' hd hlast
      have a0 : atI xs 0 = some (.ref q0) := atI_of (by decide) x0
      have al : atI xs (-1) = some (.ref ql) := atI_back (by rw [hl]; exact xl)
      refine if_f (decide_eq_false ?_) ?_
      · intro z
        have := V.int.inj z
        rw [hl] at this
        simp at this
        omega
      refine ⟨_, rfl, a, xs, 0, _, rfl, rfl, hq, a0, q0, _, 0, _, rfl, rfl, s0', rfl, ?_⟩
      refine ⟨_, rfl, 1, rfl, a, xs, -1, _, rfl, rfl, hq, al, ql, _, 1, _, rfl, rfl, sl, rfl, _, _, rfl, ?_⟩
      refine ⟨fun σ H' => ∃ (b : Addr) (ws : List V), σ = [some (.ref a), some (vO p0.1), some (vO pl.2), some (.ref b), none, none, none, none] ∧ Ex H H' ∧ H' b = some (.lst ws) ∧ ws.length ≤ 1 ∧
        DpAll K H' ws ((Spn.below (p0 :: r)).map dSt), ?_, ?_⟩
      · obtain ⟨lo, hi⟩ := p0
        cases lo with
        | none => exact ⟨_, rfl, rfl, _, rfl, if_t rfl ⟨Nat.zero_le _, fun b nb => ⟨b, [], rfl, Ex.new nb, upd_same, Nat.zero_le _, .nil⟩⟩⟩
        | some l =>
          refine ⟨_, rfl, rfl, _, rfl, if_f rfl ⟨_, rfl, l, 1, rfl, rfl, sz2, fun t nt => ⟨sz1, fun b nb => ⟨b, _, rfl, (Ex.new nt).trans (Ex.new nb), upd_same, Nat.le_refl _, ?_⟩⟩⟩⟩
          exact .one (dSt_mk (p := (none, some (l - 1))) (SqT.of ((Ex.new nb) _ _ upd_same)))
      · rintro σ H1 ⟨b, ws, rfl, e1, hb, hw, hp1⟩
        have hq1 := ex_t e1 hq
        have l1 : 1 ≤ xs.length := by rw [hl]; simp
        refine ⟨_, rfl, _, rfl, 1, rfl, a, xs, rfl, hq1, fun z => ?_, fun _ p np => ?_⟩
        · have : HT.sIx xs.length 0 (some 1) = min 1 xs.length := rfl
          omega
        · rw [cut_tail xs l1] at *
          have e2 : Ex H1 (upd H1 p (.tup xs.tail)) := Ex.new np
          have hpt : upd H1 p (.tup xs.tail) p = some (.tup xs.tail) := upd_same
          generalize upd H1 p (.tup xs.tail) = H2 at e2 hpt ⊢
          have hd2 := (hd.to e1).to e2
          have hdt : DpAll K H2 xs.tail ((p0 :: r).tail.map dSt) := by
            have := dpAll_tail hd2
            rwa [List.map_tail] at *
          refine ⟨a, p, xs, xs.tail, rfl, .inr ⟨ex_t e2 hq1, SqT.of hpt, fun d nd => ?_⟩⟩
          refine lc_dpz (t := true) (fun i => (((p0 :: r).zip (p0 :: r).tail)[i]?).bind fun z => some (dSt (z.1.2.map (· + 1), z.2.1.map (· - 1)))) nd (ex_t e2 hq1) (SqT.of hpt) (small (by omega)) ?_ ?_
          · rintro i x y T H3 N M hx hy e3 nT hN hM
            obtain ⟨p1, q1, hp1', rfl, hs1⟩ := sts_get hd2 hx
            obtain ⟨p2, q2, hp2', rfl, hs2⟩ := sts_get hdt hy
            have e4 : Ex H3 (upd H3 T (.tup [.ref q1, .ref q2])) := Ex.new nT
            have hT : upd H3 T (.tup [.ref q1, .ref q2]) T = some (.tup [.ref q1, .ref q2]) := upd_same
            generalize upd H3 T (.tup [.ref q1, .ref q2]) = H4 at e4 hT ⊢
            have hs1 := ex_t (e3.trans e4) hs1
            have hs2 := ex_t (e3.trans e4) hs2
            have hz : ((p0 :: r).zip (p0 :: r).tail)[i]? = some (p1, p2) := by rw [List.getElem?_zip_eq_some]; exact ⟨hp1', hp2'⟩
            have sp : Spn.Sep p1 p2 := by
              have hi1 := (List.getElem?_eq_some_iff.mp hp1')
              rw [List.tail_cons] at hp2'
              have hp2'' : (p0 :: r)[i + 1]? = some p2 := by rw [List.getElem?_cons_succ]; exact hp2'
              obtain ⟨h1, e1'⟩ := List.getElem?_eq_some_iff.mp hp1'
              obtain ⟨h2, e2'⟩ := List.getElem?_eq_some_iff.mp hp2''
              have := List.pairwise_iff_getElem.mp cn.sep i (i + 1) h1 h2 (by omega)
              rw [e1', e2'] at this
              exact this
            obtain ⟨u, l, eu, el, hul⟩ := sp
            obtain ⟨a1, b1⟩ := p1
            obtain ⟨a2, b2⟩ := p2
            dsimp only at eu el
            subst eu el
            refine ⟨T, _, rfl, SqT.of hT, rfl, _, _, rfl, _, _, rfl, rfl, rfl, ?_⟩
            refine ⟨_, rfl, q1, _, 1, _, rfl, rfl, hs1, rfl, u, 1, rfl, rfl, _, rfl, q2, _, 0, _, rfl, rfl, hs2, rfl, l, 1, rfl, rfl, sz2, fun tp ntp => ?_⟩
            exact hN _ _ _ (e4.trans (Ex.new ntp)) (by rw [hz]; rfl) (dSt_flat (some (u + 1), some (l - 1))) (dSt_mk (p := (some (u + 1), some (l - 1))) (SqT.of upd_same))
          · intro H3 zs e3 hzs hpz
            rw [List.length_tail, hl] at hpz
            have lz : ((p0 :: r).zip (p0 :: r).tail).length = min (p0 :: r).length ((p0 :: r).length - 1) := by rw [List.length_zip, List.length_tail]
            rw [← lz, outs_bind, betw_fm] at hpz
            refine ⟨fun σ H' => ∃ (c : Addr) (us : List V), σ = [some (.ref a), some (vO p0.1), some (vO pl.2), some (.ref b), some (.ref d), none, none, some (.ref c)] ∧ Ex H3 H' ∧ H' c = some (.lst us) ∧ us.length ≤ 1 ∧
              DpAll K H' us ((Spn.above (p0 :: r)).map dSt), ?_, ?_⟩
            · have ea : Spn.above (p0 :: r) = match pl.2 with
                | some h => [(some (h + 1), none)]
                | none => [] := by
                unfold Spn.above
                rw [hpl]
                obtain ⟨a', b'⟩ := pl
                cases b' <;> rfl
              rw [ea]
              obtain ⟨lo, hi⟩ := pl
              cases hi with
              | none => exact ⟨_, rfl, rfl, _, rfl, if_t rfl ⟨Nat.zero_le _, fun b nb => ⟨b, [], rfl, Ex.new nb, upd_same, Nat.zero_le _, .nil⟩⟩⟩
              | some l =>
                refine ⟨_, rfl, rfl, _, rfl, if_f rfl ⟨_, rfl, l, 1, rfl, rfl, sz2, fun t nt => ⟨sz1, fun b nb => ⟨b, _, rfl, (Ex.new nt).trans (Ex.new nb), upd_same, Nat.le_refl _, ?_⟩⟩⟩⟩
                exact .one (dSt_mk (p := (some (l + 1), none)) (SqT.of ((Ex.new nb) _ _ upd_same)))
            · rintro σ H4 ⟨c, us, rfl, e4, hc, hu, hp4⟩
              have lb := sts_len hpz
              have lbw : (Spn.betw (p0 :: r)).length ≤ (p0 :: r).length := by
                unfold Spn.betw
                rw [List.length_map, List.length_zip]
                omega
              have e24 : Ex H1 H4 := (e2.trans e3).trans e4
              refine ⟨_, rfl, _, rfl, b, d, ws, zs, rfl, rfl, e24 _ _ hb, e4 _ _ hzs, ?_, fun x nx => ?_⟩
              · rw [sizeLine_eq]; omega
              · have ex := Ex.new (o := .lst (ws ++ zs)) nx
                have hx : upd H4 x (.lst (ws ++ zs)) x = some (.lst (ws ++ zs)) := upd_same
                generalize upd H4 x (.lst (ws ++ zs)) = H5 at ex hx ⊢
                refine ⟨_, rfl, x, c, _, us, rfl, rfl, hx, ex _ _ hc, ?_, fun y ny => ?_⟩
                · rw [sizeLine_eq, List.length_append]; omega
                · have ey := Ex.new (o := .lst (ws ++ zs ++ us)) ny
                  refine k y _ _ (((e1.trans e24).trans ex).trans ey) upd_same ?_
                  have eg : Spn.gaps (p0 :: r) = Spn.below (p0 :: r) ++ Spn.betw (p0 :: r) ++ Spn.above (p0 :: r) := by unfold Spn.gaps; rw [if_neg h0]
                  rw [eg, List.map_append, List.map_append]
                  exact (((hp1.to e24).to (ex.trans ey)).app ((hpz.to e4).to (ex.trans ey))).app (hp4.to (ex.trans ey))
end
end K12

set_option Elab.async false
set_option linter.all false
set_option maxRecDepth 100000
set_option maxHeartbeats 4000000
namespace K12
open PySem PySem.Spec PyProof.Rows L2 Evl Gx RZ
abbrev s_later : Stmt := topS 14
theorem sc_later : FnScope ["one", "other"] ["one", "other"] (defScope s_later) := ⟨rfl, rfl, rfl, by decide +kernel, rfl, by decide +kernel, by decide +kernel⟩
abbrev s_is_earlier : Stmt := topS 15
theorem sc_is_earlier : FnScope ["one", "other"] ["one", "other"] (defScope s_is_earlier) := ⟨rfl, rfl, rfl, by decide +kernel, rfl, by decide +kernel, by decide +kernel⟩
abbrev s_met : Stmt := topS 16
theorem sc_met : FnScope ["ones", "others", "found", "at", "beside", "low", "high"] ["ones", "others"] (defScope s_met) := ⟨rfl, rfl, rfl, by decide +kernel, rfl, by decide +kernel, by decide +kernel⟩
def spLater (K : PySem.W.Frag) : Sp := fun vs H Q _ => ∃ a b : Option Int, vs = [vO a, vO b] ∧ Q (vO (Spn.later a b)) H
def spEarlier (K : PySem.W.Frag) : Sp := fun vs H Q _ => ∃ a b : Option Int, vs = [vO a, vO b] ∧ Q (.bl (Spn.earlier a b)) H
def spMet (K : PySem.W.Frag) : Sp := fun vs H Q _ => ∃ (a b : Addr) (t u : Bool) (s r : List Sx), vs = [.ref a, .ref b] ∧ StsB t K H a s ∧ StsB u K H b r ∧ s.length ≤ 100000 ∧ r.length ≤ 100000 ∧
  ∀ l ys H', Ex H H' → H' l = some (.lst ys) → DpAll K H' ys ((Spn.met s r).map dSt) → Q (.ref l) H'
section
variable {P : Program} {w : World} {K : PySem.W.Frag} {mg : Str → Option Value} {base : Heap} {f_later f_is_earlier : Addr} {fd_later fd_is_earlier : FuncData}
theorem ok_later {f : Addr} {fd : FuncData} (D : Def K mg "_later" s_later f fd ["one", "other"]) (bi : Bi mg) :
    FnOk P w K mg base CX0 1 f fd ["one", "other"] (spLater K) := by
  refine D.fn.ok sc_later (fun vs H Q E h => ?_) (fun cdv A outer s0 H vs Q E hr h => ?_)
  · obtain ⟨a, s, rfl, _⟩ := h
    rfl
  · obtain ⟨a, b, rfl, k⟩ := h
    refine ⟨_, (pss_cons (ps_if (L2.PW.pt (pw_or (pt_cmpR op_isN (pv 0) pe_non (nomark _)) (pw_or1 (pt_cmpR op_isN (pv 1) pe_non (nomark _)))))
    (pss_one (ps_ret (pe_ifExp (pt_cmpR op_isN (pv 0) pe_non (nomark _)) (pv 1) (pv 0))))
    pss_nil)
  (pss_one (ps_ret (pe_callB (call_max2 rfl) (by rfl) bi.max bt_max (pa_cons (pv 0) (pa_cons (pv 1) pa_nil)))))), ?_⟩
    cases a with
    | none => exact ⟨_, rfl, rfl, _, rfl, if_t rfl ⟨_, rfl, rfl, _, rfl, if_t rfl ⟨_, rfl, k⟩⟩⟩
    | some a =>
      cases b with
      | none => exact ⟨_, rfl, rfl, _, rfl, if_f rfl ⟨_, rfl, rfl, _, rfl, if_t rfl ⟨_, rfl, rfl, _, rfl, if_f rfl ⟨_, rfl, k⟩⟩⟩⟩
      | some b => exact ⟨_, rfl, rfl, _, rfl, if_f rfl ⟨_, rfl, rfl, _, rfl, if_f rfl ⟨_, rfl, _, rfl, a, b, rfl, k⟩⟩⟩
theorem ok_is_earlier {f : Addr} {fd : FuncData} (D : Def K mg "_is_earlier" s_is_earlier f fd ["one", "other"]) (bi : Bi mg) :
    FnOk P w K mg base CX0 1 f fd ["one", "other"] (spEarlier K) := by
  refine D.fn.ok sc_is_earlier (fun vs H Q E h => ?_) (fun cdv A outer s0 H vs Q E hr h => ?_)
  · obtain ⟨a, s, rfl, _⟩ := h
    rfl
  · obtain ⟨a, b, rfl, k⟩ := h
    refine ⟨_, (pss_one (ps_ret (pe_and (pe_cmpR op_notN (pv 0) pe_non (nomark _)) (pe_one (pe_or (pe_cmpR op_isN (pv 1) pe_non (nomark _)) (pe_one (pe_cmpR op_lt (pv 0) (pv 1) (nomark _)))))))), ?_⟩
    cases a with
    | none => exact ⟨_, rfl, rfl, _, rfl, if_f rfl k⟩
    | some a =>
      refine ⟨_, rfl, rfl, _, rfl, if_t rfl ?_⟩
      cases b with
      | none => exact ⟨_, rfl, rfl, _, rfl, if_t rfl k⟩
      | some b => exact ⟨_, rfl, rfl, _, rfl, if_f rfl ⟨_, rfl, _, rfl, a, b, rfl, rfl, k⟩⟩
theorem ok_met {f : Addr} {fd : FuncData} (D : Def K mg "_met" s_met f fd ["ones", "others"]) (bi : Bi mg)
    (D_later : Def K mg "_later" s_later f_later fd_later ["one", "other"])
    (G_later : FnOk P w K mg base CX0 1 f_later fd_later ["one", "other"] (spLater K))
    (D_is_earlier : Def K mg "_is_earlier" s_is_earlier f_is_earlier fd_is_earlier ["one", "other"])
    (G_is_earlier : FnOk P w K mg base CX0 1 f_is_earlier fd_is_earlier ["one", "other"] (spEarlier K)) :
    FnOk P w K mg base CX0 2 f fd ["ones", "others"] (spMet K) := by
  refine D.fn.ok sc_met (fun vs H Q E h => ?_) (fun cdv A outer s0 H vs Q E hr h => ?_)
  · obtain ⟨a, b, t, u, s, r, rfl, _⟩ := h
    rfl
  · obtain ⟨a, b, t, u, s, r, rfl, ⟨xs, hxs, hdx⟩, ⟨ys, hys, hdy⟩, lz, lr, k⟩ := h
    have lx := sts_len hdx
    have ly := sts_len hdy
    refine ⟨_, (pss_cons (ps_set (i := 2) sc_met.nd rfl (Or.inl rfl) (pe_lst pa_nil))
  (pss_cons (ps_set (i := 3) sc_met.nd rfl (Or.inl rfl) pe_int)
  (pss_cons (ps_set (i := 4) sc_met.nd rfl (Or.inl rfl) pe_int)
  (pss_cons (ps_while PassesOwn.never (L2.PW.pt (pw_and (pt_cmpR op_lt (pv 3) (pe_callB call_len_seq (by rfl) bi.len bt_len (pa_cons (pv 0) pa_nil)) (nomark _)) (pw_and1 (pt_cmpR op_lt (pv 4) (pe_callB call_len_seq (by rfl) bi.len bt_len (pa_cons (pv 1) pa_nil)) (nomark _)))))
    (pss_cons (ps_par (i := 5) (j := 6) rfl sc_met.nd rfl rfl (by decide) rfl rfl (pa_cons (pe_call G_later (hr.mono (by first | decide | omega)) rfl D_later.mg D_later.fn.kp D_later.bd .nil pass0 (pa_cons (pe_ix (ix_tupK (K := K) rfl) (pe_ix (ix_tl (K := K) rfl) (pv 0) (pv 3) (fun _ _ => rfl)) pe_int (fun _ _ => rfl)) (pa_cons (pe_ix (ix_tupK (K := K) rfl) (pe_ix (ix_tl (K := K) rfl) (pv 1) (pv 4) (fun _ _ => rfl)) pe_int (fun _ _ => rfl)) pa_nil))) (pa_cons (pe_ix (ix_tupK (K := K) rfl) (pe_ix (ix_tl (K := K) rfl) (pv 0) (pv 3) (fun _ _ => rfl)) pe_int (fun _ _ => rfl)) pa_nil)) (by rfl))
    (Evl.pss_cut (ps_if (pt_val (pe_call G_is_earlier (hr.mono (by first | decide | omega)) rfl D_is_earlier.mg D_is_earlier.fn.kp D_is_earlier.bd .nil pass0 (pa_cons (pv 6) (pa_cons (pe_ix (ix_tupK (K := K) rfl) (pe_ix (ix_tl (K := K) rfl) (pv 1) (pv 4) (fun _ _ => rfl)) pe_int (fun _ _ => rfl)) pa_nil))))
      (pss_one (ps_aug (i := 3) sc_met.nd rfl (Or.inl rfl) pe_int ip_add))
      (pss_cons (ps_set (i := 6) sc_met.nd rfl (Or.inl rfl) (pe_ix (ix_tupK (K := K) rfl) (pe_ix (ix_tl (K := K) rfl) (pv 1) (pv 4) (fun _ _ => rfl)) pe_int (fun _ _ => rfl)))
      (pss_one (ps_aug (i := 4) sc_met.nd rfl (Or.inl rfl) pe_int ip_add))))
    (pss_one (ps_if (L2.PW.pt (pw_or (pt_cmpR op_isN (pv 5) pe_non (nomark _)) (pw_or (pt_cmpR op_isN (pv 6) pe_non (nomark _)) (pw_or1 (pt_cmpR op_le (pv 5) (pv 6) (nomark _))))))
      (pss_one (ps_expr (pe_bm PySem.F.plainAttrs_list PySem.F.slot_list_append PySem.F.type_list_append mt_append (pv 2) (pa_cons (pe_tup (pa_cons (pv 5) (pa_cons (pv 6) pa_nil))) pa_nil))))
      pss_nil)))))
  (pss_one (ps_ret (pv 2))))))), ?_⟩
    refine ⟨Nat.zero_le _, fun F nF => ?_⟩
    have e1 : Ex H (upd H F (.lst [])) := Ex.new nF
    have hF : upd H F (.lst []) F = some (.lst []) := upd_same
    generalize upd H F (.lst []) = H1 at e1 hF ⊢
    have nFH : H F = none := nF
    refine ⟨fun m σ H' => ∃ (i j : Nat) (x5 x6 : Option V) (dn : List Sx) (ws : List V), σ = [some (.ref a), some (.ref b), some (.ref F), some (.int i), some (.int j), x5, x6] ∧ i ≤ s.length ∧ j ≤ r.length ∧
      m = (s.length - i) + (r.length - j) ∧ ExB F H1 H' ∧ H' F = some (.lst ws) ∧ DpAll K H' ws (dn.map dSt) ∧ dn.length ≤ i + j ∧ Spn.met s r = dn ++ Spn.met (s.drop i) (r.drop j), ?_, ?_⟩
    · exact ⟨_, 0, 0, none, none, [], [], rfl, Nat.zero_le _, Nat.zero_le _, rfl, .of (Ex.refl _), hF, .nil, Nat.le_refl _, rfl⟩
    · rintro m σ H2 ⟨i, j, x5, x6, dn, ws, rfl, hi, hj, rfl, e2, hF2, hp2, hdn, em⟩
      have e02 : Ex H H2 := exB_ex e2 e1 nFH
      have hxs2 := hxs.to e02
      have hys2 := hys.to e02
      -- the end
      have done : (s.drop i = [] ∨ r.drop j = []) → Q (.ref F) H2 := fun z => by
        refine k F ws H2 e02 hF2 ?_
        have : Spn.met (s.drop i) (r.drop j) = [] := by
          rcases z with z | z
          · rw [z, Spn.met_nil]
          · rw [z, Spn.met_nil']
        rw [em, this, List.append_nil]
        exact hp2
      refine ⟨_, rfl, _, rfl, a, xs, rfl, hxs2.or, (i : Int), (xs.length : Int), rfl, rfl, _, rfl, ?_⟩
      refine if_d (fun hi' => ?_) fun hi' => ?_
      · refine ⟨_, rfl, _, rfl, b, ys, rfl, hys2.or, (j : Int), (ys.length : Int), rfl, rfl, _, rfl, ?_⟩
        refine if_d (fun hj' => ?_) fun hj' => ?_
        · have hi'' : i < s.length := by omega
          have hj'' : j < r.length := by omega
          obtain ⟨p, hp⟩ : ∃ p, s[i]? = some p := ⟨_, List.getElem?_eq_getElem hi''⟩
          obtain ⟨q, hq⟩ : ∃ q, r[j]? = some q := ⟨_, List.getElem?_eq_getElem hj''⟩
          obtain ⟨pa, xp, sp⟩ := sts_get' hdx hp
          obtain ⟨qa, yq, sq⟩ := sts_get' hdy hq
          have sp := ex_t e02 sp
          have sq := ex_t e02 sq
          have ep := drop_cons hp
          have eq := drop_cons hq
          rw [ep, eq, Spn.met_cons, ← ep, ← eq] at em
          refine ⟨fun σ H' => ∃ (i' j' : Nat) (x5 x6 : Option V) (dn : List Sx) (ws : List V), σ = [some (.ref a), some (.ref b), some (.ref F), some (.int i'), some (.int j'), x5, x6] ∧ i' ≤ s.length ∧ j' ≤ r.length ∧
            i' + j' = i + j + 1 ∧ ExB F H1 H' ∧ H' F = some (.lst ws) ∧ DpAll K H' ws (dn.map dSt) ∧ dn.length ≤ i' + j' ∧ Spn.met s r = dn ++ Spn.met (s.drop i') (r.drop j'), ?_, ?_⟩
          · rintro σ' H' ⟨i', j', x5, x6, dn, ws, rfl, h1, h2, h3, h4⟩
            exact ⟨_, by omega, i', j', x5, x6, dn, ws, rfl, h1, h2, rfl, h4⟩
          · refine ⟨_, rfl, _, rfl, hxs2.ixs (atI_nat xp) ⟨pa, _, 0, _, rfl, rfl, sp, rfl, _, rfl, _, rfl, hys2.ixs (atI_nat yq) ⟨qa, _, 0, _, rfl, rfl, sq, rfl, p.1, q.1, rfl, ?_⟩⟩⟩
            refine ⟨_, rfl, _, rfl, hxs2.ixs (atI_nat xp) ⟨pa, _, 1, _, rfl, rfl, sp, rfl, _, _, rfl, ?_⟩⟩
            -- behind the first if
            refine ⟨fun σ H' => ∃ (i' j' : Nat) (hi : Option Int), σ = [some (.ref a), some (.ref b), some (.ref F), some (.int i'), some (.int j'), some (vO (Spn.later p.1 q.1)), some (vO hi)] ∧ H' = H2 ∧ i' ≤ s.length ∧ j' ≤ r.length ∧
              i' + j' = i + j + 1 ∧ Spn.met s r = dn ++ ((if Spn.stands (Spn.later p.1 q.1, hi) = true then [(Spn.later p.1 q.1, hi)] else []) ++ Spn.met (s.drop i') (r.drop j')), ?_, ?_⟩
            · refine ⟨_, rfl, _, rfl, _, rfl, hys2.ixs (atI_nat yq) ⟨qa, _, 1, _, rfl, rfl, sq, rfl, p.2, q.2, rfl, _, rfl, ?_⟩⟩
              by_cases he : Spn.earlier p.2 q.2 = true
              · rw [if_pos he] at em
                rw [he]
                refine if_t rfl ⟨_, rfl, i, 1, rfl, rfl, ?_⟩
                refine ⟨i + 1, j, p.2, rfl, rfl, by omega, by omega, by omega, ?_⟩
                rw [em, eq]
              · have he' : Spn.earlier p.2 q.2 = false := by simpa using he
                rw [if_neg he] at em
                rw [he']
                refine if_f rfl ⟨_, rfl, _, rfl, hys2.ixs (atI_nat yq) ⟨qa, _, 1, _, rfl, rfl, sq, rfl, ?_⟩⟩
                refine ⟨_, rfl, j, 1, rfl, rfl, ?_⟩
                refine ⟨i, j + 1, q.2, rfl, rfl, by omega, by omega, by omega, ?_⟩
                rw [em, ep]
            · rintro σ H3 ⟨i', j', hi, rfl, rfl, h1, h2, h3, h4⟩
              generalize Spn.later p.1 q.1 = lo at h4 ⊢
              have wl := sts_len hp2
              have out : Spn.stands (lo, hi) = false → ∃ (i'' j'' : Nat) (x5 x6 : Option V) (dn : List Sx) (ws : List V), [some (V.ref a), some (.ref b), some (.ref F), some (.int i'), some (.int j'), some (vO lo), some (vO hi)] = [some (.ref a), some (.ref b), some (.ref F), some (.int i''), some (.int j''), x5, x6] ∧ i'' ≤ s.length ∧ j'' ≤ r.length ∧
                  i'' + j'' = i + j + 1 ∧ ExB F H1 H3 ∧ H3 F = some (.lst ws) ∧ DpAll K H3 ws (dn.map dSt) ∧ dn.length ≤ i'' + j'' ∧ Spn.met s r = dn ++ Spn.met (s.drop i'') (r.drop j'') := fun z => by
                rw [z, if_neg Bool.false_ne_true, List.nil_append] at h4
                exact ⟨i', j', _, _, dn, ws, rfl, h1, h2, h3, e2, hF2, hp2, by omega, h4⟩
              -- found.append((low, high))
              have app : Spn.stands (lo, hi) = true → ∀ tp, H3 tp = none → ∃ (i'' j'' : Nat) (x5 x6 : Option V) (dn : List Sx) (ws' : List V), [some (V.ref a), some (.ref b), some (.ref F), some (.int i'), some (.int j'), some (vO lo), some (vO hi)] = [some (.ref a), some (.ref b), some (.ref F), some (.int i''), some (.int j''), x5, x6] ∧ i'' ≤ s.length ∧ j'' ≤ r.length ∧
                  i'' + j'' = i + j + 1 ∧ ExB F H1 (upd (upd H3 tp (.tup [vO lo, vO hi])) F (.lst (ws ++ [.ref tp]))) ∧ (upd (upd H3 tp (.tup [vO lo, vO hi])) F (.lst (ws ++ [.ref tp]))) F = some (.lst ws') ∧ DpAll K (upd (upd H3 tp (.tup [vO lo, vO hi])) F (.lst (ws ++ [.ref tp]))) ws' (dn.map dSt) ∧ dn.length ≤ i'' + j'' ∧ Spn.met s r = dn ++ Spn.met (s.drop i'') (r.drop j'') := fun z tp np => by
                rw [z, if_pos rfl] at h4
                have e5 : Ex H3 (upd H3 tp (.tup [vO lo, vO hi])) := Ex.new np
                have ht5 : upd H3 tp (.tup [vO lo, vO hi]) tp = some (.tup [vO lo, vO hi]) := upd_same
                generalize upd H3 tp (.tup [vO lo, vO hi]) = H5 at e5 ht5 ⊢
                have hF5 := e5 _ _ hF2
                have e6 : ExI H5 (upd H5 F (.lst (ws ++ [.ref tp]))) := ExI.put hF5 rfl
                refine ⟨i', j', _, _, dn ++ [(lo, hi)], ws ++ [.ref tp], rfl, h1, h2, h3, (e2.trans (.of e5)).trans .put, upd_same, ?_, by simp; omega, by rw [List.append_assoc]; exact h4⟩
                rw [List.map_append]
                exact (dpAll_exI e6 _ _ (dSts_flat _) (hp2.to e5)).app (.one (dp_exI e6 _ _ (dSt_flat (lo, hi)) (dSt_mk (p := (lo, hi)) (SqT.of ht5))))
              have go : Spn.stands (lo, hi) = true → ∀ tp, H3 tp = none → (upd H3 tp (.tup [vO lo, vO hi])) F = some (.lst ws) := fun _ tp np => (Ex.new np) _ _ hF2
              have sz : ws.length < sizeLine := by rw [sizeLine_eq]; omega
              cases lo with
              | none =>
                refine ⟨_, rfl, rfl, _, rfl, if_t rfl ⟨_, rfl, .inl ⟨rfl, _, SqL.of hF2⟩, _, rfl, _, rfl, sz2, fun tp np => ?_⟩⟩
                exact ⟨F, ws, _, rfl, rfl, go rfl tp np, sz, app rfl tp np⟩
              | some l =>
                refine ⟨_, rfl, rfl, _, rfl, if_f rfl ?_⟩
                cases hi with
                | none =>
                  refine ⟨_, rfl, rfl, _, rfl, if_t rfl ⟨_, rfl, .inl ⟨rfl, _, SqL.of hF2⟩, _, rfl, _, rfl, sz2, fun tp np => ?_⟩⟩
                  exact ⟨F, ws, _, rfl, rfl, go rfl tp np, sz, app rfl tp np⟩
                | some u =>
                  refine ⟨_, rfl, rfl, _, rfl, if_f rfl ⟨_, rfl, _, rfl, l, u, rfl, rfl, _, rfl, ?_⟩⟩
                  refine if_d (fun h => ?_) fun h => ?_
                  · refine ⟨_, rfl, .inl ⟨rfl, _, SqL.of hF2⟩, _, rfl, _, rfl, sz2, fun tp np => ?_⟩
                    exact ⟨F, ws, _, rfl, rfl, go (decide_eq_true h) tp np, sz, app (decide_eq_true h) tp np⟩
                  · exact out (decide_eq_false h)
        · exact ⟨_, rfl, done (.inr (List.drop_of_length_le (by omega)))⟩
      · exact ⟨_, rfl, done (.inl (List.drop_of_length_le (by omega)))⟩
end
end K12

set_option Elab.async false
set_option linter.all false
set_option maxRecDepth 100000
set_option maxHeartbeats 4000000
namespace K12
open PySem PySem.Spec PyProof.Rows L2 Evl Gx RZ
abbrev s_Wrong___init : Stmt := inClass (topS 3) 0
theorem sc_Wrong___init : FnScope ["self", "place"] ["self", "place"] (defScope s_Wrong___init) := ⟨rfl, rfl, rfl, by decide +kernel, rfl, by decide +kernel, by decide +kernel⟩
abbrev s_Spans___init : Stmt := inClass (topS 19) 0
theorem sc_Spans___init : FnScope ["self", "pairs"] ["self", "pairs"] (defScope s_Spans___init) := ⟨rfl, rfl, rfl, by decide +kernel, rfl, by decide +kernel, by decide +kernel⟩
abbrev s_made : Stmt := topS 20
theorem sc_made : FnScope ["stretches", "found"] ["stretches"] (defScope s_made) := ⟨rfl, rfl, rfl, by decide +kernel, rfl, by decide +kernel, by decide +kernel⟩
abbrev s_spans_of : Stmt := topS 21
theorem sc_spans_of : FnScope ["pairs"] ["pairs"] (defScope s_spans_of) := ⟨rfl, rfl, rfl, by decide +kernel, rfl, by decide +kernel, by decide +kernel⟩
structure SpansT (K : PySem.W.Frag) (mg : Str → Option Value) (C fI : Addr) : Prop where
  cl : Cls K C
  mak : Mk K C fI
  gC : mg "Spans" = some (.ref C)
  ns : NoAttr K C "_stretches"
def spF (t : Addr) : List (Str × V) := [("_stretches", .ref t)]
theorem sp_look {t : Addr} : (spF t).lookup ("_stretches" : Str) = some (.ref t) := by unfold spF; simp [List.lookup]
theorem sp_put {t u : Addr} : putF "_stretches" (.ref u) (spF t) = spF u := by unfold spF; simp [putF]
theorem sp_no {t : Addr} {m : Str} (h : (m == ("_stretches" : Str)) = false) : (spF t).lookup m = none := by unfold spF; simp only [List.lookup, h]
/-- a Spans of no more than n stretches -/
def SpAt (K : PySem.W.Frag) (C : Addr) (H : Hp) (p : Addr) (s : List Sx) (n : Nat) : Prop := (∃ dx t, H p = some (.ins C dx (spF t)) ∧ StsB true K H t s) ∧ Spn.Canon s ∧ s.length ≤ n
theorem SpAt.to {K : PySem.W.Frag} {C : Addr} {H H' : Hp} {p : Addr} {s : List Sx} {n : Nat} (h : SpAt K C H p s n) (e : Ex H H') : SpAt K C H' p s n := by
  obtain ⟨⟨dx, t, h1, h2⟩, h3⟩ := h
  exact ⟨⟨dx, t, e _ _ h1, h2.to e⟩, h3⟩
def spSpansI (K : PySem.W.Frag) (C : Addr) : Sp := fun vs H Q _ => ∃ (p dx a : Addr) (t : Bool) (s : List Sx), vs = [.ref p, .ref a] ∧ H p = some (.ins C dx []) ∧
  StsB t K H a s ∧ (∀ p ∈ s, Spn.ok p) ∧ s.length ≤ 100000 ∧
  ∀ (l : Addr) (H' : Hp), H' p = some (.ins C dx (spF l)) → (∀ b o, H b = some o → b ≠ p → H' b = some o) → (StsB true K H' l (Spn.joined s)) → Q .non H'
def spMade (K : PySem.W.Frag) (C : Addr) : Sp := fun vs H Q _ => ∃ (a : Addr) (t : Bool) (s : List Sx), vs = [.ref a] ∧ StsB t K H a s ∧ Spn.Canon s ∧ s.length ≤ 100000 ∧
  ∀ x H', Ex H H' → SpAt K C H' x s s.length → Q (.ref x) H'
def spSpansOf (K : PySem.W.Frag) (C : Addr) : Sp := fun vs H Q _ => ∃ (a : Addr) (t : Bool) (s : List Sx), vs = [.ref a] ∧ StsB t K H a s ∧ (∀ p ∈ s, Spn.ok p) ∧ s.length ≤ 100000 ∧
  ∀ x H', Ex H H' → SpAt K C H' x (Spn.joined s) s.length → Q (.ref x) H'
section
variable {P : Program} {w : World} {K : PySem.W.Frag} {mg : Str → Option Value} {base : Heap} {C CW fI fW f_are_pairs f_joined f_made : Addr} {fdI fdW fd_are_pairs fd_joined fd_made : FuncData}
theorem ok_initW (e_Wrong : Err K mg "Wrong" "Wrong.__init__" "place" ["self", "place"] s_Wrong___init CW fW fdW) :
    FnOk P w K mg base CX0 1 fW fdW ["self", "place"] (spInit CW "place") := by
  refine e_Wrong.fn.ok sc_Wrong___init (fun vs H Q E h => ?_) (fun cdv A outer s H vs Q E hr h => ?_)
  · obtain ⟨a, v, rfl, _⟩ := h
    rfl
  · obtain ⟨a, v, rfl, ha, k⟩ := h
    refine ⟨_, (pss_one (ps_ost (pv 0) (pv 1))), ?_⟩
    exact ⟨_, rfl, _, rfl, a, CW, rfl, e_Wrong.T, e_Wrong.no, .inl ⟨ha, k⟩⟩
theorem ok_spans (T_Spans : SpansT K mg C fI) (D : MDef K C "__init__" "Spans.__init__" s_Spans___init fI fdI ["self", "pairs"]) (bi : Bi mg)
    (e_Wrong : Err K mg "Wrong" "Wrong.__init__" "place" ["self", "place"] s_Wrong___init CW fW fdW)
    (GI_Wrong : FnOk P w K mg base CX0 1 fW fdW ["self", "place"] (spInit CW "place"))
    (D_are_pairs : Def K mg "_are_pairs" s_are_pairs f_are_pairs fd_are_pairs ["thing"])
    (G_are_pairs : FnOk P w K mg base CX0 4 f_are_pairs fd_are_pairs ["thing"] (spArePairs K))
    (D_joined : Def K mg "_joined" s_joined f_joined fd_joined ["pairs"])
    (G_joined : FnOk P w K mg base CX0 5 f_joined fd_joined ["pairs"] (spJoined K)) :
    FnOk P w K mg base (L2.CX P w) 6 fI fdI ["self", "pairs"] (spSpansI K C) := by
  refine D.fn.okX sc_Spans___init (fun vs H Q E h => ?_) (fun cdv A outer s0 H vs Q E hr h => ?_)
  · obtain ⟨p, dx, a, t, s, rfl, _⟩ := h
    rfl
  · obtain ⟨p, dx, a, t, s, rfl, hp, ha, ho, hz, k⟩ := h
    refine ⟨_, (pss_cons (ps_if (pt_not (pt_val (pe_call G_are_pairs (hr.mono (by first | decide | omega)) rfl D_are_pairs.mg D_are_pairs.fn.kp D_are_pairs.bd .nil pass0 (pa_cons (pv 1) pa_nil))))
    (pss_one (L2.ps_raise rfl (L2.takes_of rfl rfl rfl rfl) (pmk_oex e_Wrong.T e_Wrong.iC e_Wrong.tI GI_Wrong (hr.mono (by first | decide | omega)) e_Wrong.bd .nil pass0 rfl e_Wrong.gC (pa_cons pe_int pa_nil))))
    pss_nil)
  (pss_one (ps_fld (pv 0) (pe_call G_joined (hr.mono (by first | decide | omega)) rfl D_joined.mg D_joined.fn.kp D_joined.bd .nil pass0 (pa_cons (pv 1) pa_nil)) rfl))), ?_⟩
    refine ⟨_, rfl, a, t, s, rfl, ha, ho, fun H1 e1 => ⟨_, rfl, ?_⟩⟩
    refine if_f rfl ?_
    refine ⟨_, rfl, a, t, s, rfl, ha.to e1, hz, fun l H2 e2 hl => ?_⟩
    have hp2 := e2 _ _ (e1 _ _ hp)
    refine ⟨_, rfl, p, C, dx, [], rfl, hp2, T_Spans.cl, T_Spans.ns, (by show 0 < 1000; decide), ?_⟩
    refine k l _ upd_same (fun b o hb hn => ?_) (hl.toI (ExI.put hp2 rfl))
    rw [upd_ne hn]
    exact e2 _ _ (e1 _ _ hb)
theorem ok_made (D : Def K mg "_made" s_made f_made fd_made ["stretches"]) (bi : Bi mg) (T_Spans : SpansT K mg C fI)
    (D_Spans___init : MDef K C "__init__" "Spans.__init__" s_Spans___init fI fdI ["self", "pairs"])
    (G_Spans___init : FnOk P w K mg base (L2.CX P w) 6 fI fdI ["self", "pairs"] (spSpansI K C)) :
    FnOk P w K mg base CX0 8 f_made fd_made ["stretches"] (spMade K C) := by
  refine D.fn.ok sc_made (fun vs H Q E h => ?_) (fun cdv A outer s0 H vs Q E hr h => ?_)
  · obtain ⟨a, t, s, rfl, _⟩ := h
    rfl
  · obtain ⟨a, t, s, rfl, ha, cn, hz, k⟩ := h
    refine ⟨_, (pss_cons (ps_set (i := 1) sc_made.nd rfl (Or.inl rfl) (pe_make T_Spans.mak G_Spans___init (hr.mono (by first | decide | omega)) rfl T_Spans.gC D_Spans___init.bd .nil passL (pa_cons (pe_tup pa_nil) pa_nil)))
  (pss_cons (ps_fld (pv 1) (pe_callTy call_tuple_of (by rfl) bi.tuple bt_tuple (pa_cons (pv 0) pa_nil)) rfl)
  (pss_one (ps_ret (pv 1))))), ?_⟩
    refine ⟨Nat.zero_le _, fun e ne x dx nx ndx nex => ⟨x, dx, e, true, [], rfl, upd_same, ⟨[], SqT.of ?_, .nil⟩, by simp, Nat.zero_le _, fun l H2 hx fr hl => ⟨rfl, ?_⟩⟩⟩
    · rw [upd_ne (fun z => by subst z; rw [upd_same] at nx; cases nx), upd_ne (fun z => by subst z; rw [upd_same] at ndx; cases ndx)]
      exact upd_same
    · have e1 : Ex H (upd H e (.tup [])) := Ex.new ne
      generalize upd H e (.tup []) = H1 at nx ndx fr e1
      have e2 : Ex H1 H2 := fun b o hb => fr b o (by rw [upd_ne (fun z => by subst z; rw [hb] at nx; cases nx), upd_ne (fun z => by subst z; rw [hb] at ndx; cases ndx)]; exact hb) fun z => by subst z; rw [hb] at nx; cases nx
      have nxH : H x = none := fresh_back e1 nx
      have e02 := e1.trans e2
      have ha2 := ha.to e02
      have fin : ∀ u H3, Ex H2 H3 → StsB true K H3 u s → SpAt K C (upd H3 x (.ins C dx (spF u))) x s s.length ∧ Ex H (upd H3 x (.ins C dx (spF u))) := fun u H3 e3 hu =>
        ⟨⟨⟨dx, u, upd_same, hu.toI (ExI.put (e3 _ _ hx) rfl)⟩, cn, Nat.le_refl _⟩, (e02.trans e3).mut nxH⟩
      obtain ⟨xs, hq, hd⟩ := ha2
      refine ⟨_, rfl, a, xs, rfl, ?_⟩
      cases t
      · refine .inl ⟨hq, fun u nu => ⟨_, rfl, x, C, dx, spF l, rfl, (Ex.new nu) _ _ hx, T_Spans.cl, T_Spans.ns, (by show 1 < 1000; decide), ?_⟩⟩
        rw [sp_put]
        obtain ⟨h1, h2⟩ := fin u _ (Ex.new nu) ⟨xs, SqT.of upd_same, hd.to (Ex.new nu)⟩
        exact ⟨_, rfl, k x _ h2 h1⟩
      · refine .inr ⟨hq, ⟨_, rfl, x, C, dx, spF l, rfl, hx, T_Spans.cl, T_Spans.ns, (by show 1 < 1000; decide), ?_⟩⟩
        rw [sp_put]
        obtain ⟨h1, h2⟩ := fin a _ (Ex.refl _) ⟨xs, hq, hd⟩
        exact ⟨_, rfl, k x _ h2 h1⟩
theorem ok_spans_of {f : Addr} {fd : FuncData} (D : Def K mg "spans_of" s_spans_of f fd ["pairs"]) (bi : Bi mg)
    (D_joined : Def K mg "_joined" s_joined f_joined fd_joined ["pairs"])
    (G_joined : FnOk P w K mg base CX0 5 f_joined fd_joined ["pairs"] (spJoined K))
    (D_made : Def K mg "_made" s_made f_made fd_made ["stretches"])
    (G_made : FnOk P w K mg base CX0 8 f_made fd_made ["stretches"] (spMade K C)) :
    FnOk P w K mg base CX0 9 f fd ["pairs"] (spSpansOf K C) := by
  refine D.fn.ok sc_spans_of (fun vs H Q E h => ?_) (fun cdv A outer s0 H vs Q E hr h => ?_)
  · obtain ⟨a, t, s, rfl, _⟩ := h
    rfl
  · obtain ⟨a, t, s, rfl, ha, ho, hz, k⟩ := h
    refine ⟨_, (pss_one (ps_ret (pe_call G_made (hr.mono (by first | decide | omega)) rfl D_made.mg D_made.fn.kp D_made.bd .nil pass0 (pa_cons (pe_call G_joined (hr.mono (by first | decide | omega)) rfl D_joined.mg D_joined.fn.kp D_joined.bd .nil pass0 (pa_cons (pv 0) pa_nil)) pa_nil)))), ?_⟩
    have jl := Spn.joined_len s
    refine ⟨_, rfl, a, t, s, rfl, ha, hz, fun l H1 e1 hl => ⟨l, true, _, rfl, hl, (Spn.joined_ok ho).1, by omega, fun x H2 e2 hx => ?_⟩⟩
    refine k x H2 (e1.trans e2) ?_
    exact ⟨hx.1, hx.2.1, Nat.le_trans hx.2.2 jl⟩
end
end K12

set_option Elab.async false
set_option linter.all false
set_option maxRecDepth 100000
set_option maxHeartbeats 4000000
namespace K12
open PySem PySem.Spec PyProof.Rows L2 Evl Gx RZ
abbrev s_Spans_pairs : Stmt := inClass (topS 19) 1
theorem sc_Spans_pairs : FnScope ["self"] ["self"] (defScope s_Spans_pairs) := ⟨rfl, rfl, rfl, by decide +kernel, rfl, by decide +kernel, by decide +kernel⟩
abbrev s_Spans___len : Stmt := inClass (topS 19) 6
theorem sc_Spans___len : FnScope ["self"] ["self"] (defScope s_Spans___len) := ⟨rfl, rfl, rfl, by decide +kernel, rfl, by decide +kernel, by decide +kernel⟩
abbrev s_Spans___contains : Stmt := inClass (topS 19) 8
theorem sc_Spans___contains : FnScope ["self", "x", "low", "high"] ["self", "x"] (defScope s_Spans___contains) := ⟨rfl, rfl, rfl, by decide +kernel, rfl, by decide +kernel, by decide +kernel⟩
abbrev s_Spans___or : Stmt := inClass (topS 19) 9
theorem sc_Spans___or : FnScope ["self", "other"] ["self", "other"] (defScope s_Spans___or) := ⟨rfl, rfl, rfl, by decide +kernel, rfl, by decide +kernel, by decide +kernel⟩
abbrev s_Spans___and : Stmt := inClass (topS 19) 10
theorem sc_Spans___and : FnScope ["self", "other"] ["self", "other"] (defScope s_Spans___and) := ⟨rfl, rfl, rfl, by decide +kernel, rfl, by decide +kernel, by decide +kernel⟩
abbrev s_Spans___sub : Stmt := inClass (topS 19) 11
theorem sc_Spans___sub : FnScope ["self", "other"] ["self", "other"] (defScope s_Spans___sub) := ⟨rfl, rfl, rfl, by decide +kernel, rfl, by decide +kernel, by decide +kernel⟩
abbrev s_Spans___invert : Stmt := inClass (topS 19) 12
theorem sc_Spans___invert : FnScope ["self"] ["self"] (defScope s_Spans___invert) := ⟨rfl, rfl, rfl, by decide +kernel, rfl, by decide +kernel, by decide +kernel⟩
abbrev s_Spans___eq : Stmt := inClass (topS 19) 13
theorem sc_Spans___eq : FnScope ["self", "other"] ["self", "other"] (defScope s_Spans___eq) := ⟨rfl, rfl, rfl, by decide +kernel, rfl, by decide +kernel, by decide +kernel⟩
/-- what the class tells of its operators -/
structure SpOps (K : PySem.W.Frag) (C g_or g_and g_sub g_inv g_len g_in g_eq : Addr) : Prop where
  sf : PySem.W.selfFirst K C = true
  or : PySem.W.findIn K (.ref C) (PySem.dunder Operator.BitOr.info.2) = some (some (.ref g_or))
  orf : PySem.W.isFn K (.ref g_or) = true
  and : PySem.W.findIn K (.ref C) (PySem.dunder Operator.BitAnd.info.2) = some (some (.ref g_and))
  andf : PySem.W.isFn K (.ref g_and) = true
  sub : PySem.W.findIn K (.ref C) (PySem.dunder Operator.Sub.info.2) = some (some (.ref g_sub))
  subf : PySem.W.isFn K (.ref g_sub) = true
  inv : PySem.W.findIn K (.ref C) "__invert__" = some (some (.ref g_inv))
  invf : PySem.W.isFn K (.ref g_inv) = true
  len : PySem.W.findIn K (.ref C) "__len__" = some (some (.ref g_len))
  lenf : PySem.W.isFn K (.ref g_len) = true
  in_ : PySem.W.findIn K (.ref C) "__contains__" = some (some (.ref g_in))
  in_f : PySem.W.isFn K (.ref g_in) = true
  eq : PySem.W.findIn K (.ref C) "__eq__" = some (some (.ref g_eq))
  eqf : PySem.W.isFn K (.ref g_eq) = true
  ne : PySem.W.findIn K (.ref C) "__ne__" = some (some (.builtin "object.__ne__"))
  cm : PySem.W.mroIn K C (.type "object") = some true
  ca : PySem.W.findIn K (.ref C) "__class__" = some (some (.builtin "object.__class__"))
  cn : PySem.W.specialIn K (.builtin "object.__class__") "__get__" = some (some (.builtin "getset_descriptor.__get__"))
  ct : PySem.W.takesIn K (.builtin "object.__class__") = some true
theorem SpOps.ty {K : PySem.W.Frag} {C g1 g2 g3 g4 g5 g6 g7 p dx : Addr} {H : Hp} {fs : List (Str × V)} (e : SpOps K C g1 g2 g3 g4 g5 g6 g7) (c : Cls K C) (h : H p = some (.ins C dx fs)) : TyX K H (.ref p) (.ref C) := .base (.ins h c e.ca e.cn e.ct e.cm)
theorem nf_self {K : PySem.W.Frag} {C : Addr} : PySem.W.notFirst K C (.ref C) = true := by unfold PySem.W.notFirst; simp
theorem ko_self {K : PySem.W.Frag} {C : Addr} : PySem.W.kitOne K (.ref C) (.ref C) = some true := by unfold PySem.W.kitOne; simp
theorem _root_.Gx.MDef.raw {P : Program} {w : World} {K : PySem.W.Frag} {mg : Str → Option Value} {base : Heap} {CX : CXT} {k : Nat} {C : Addr} {m qual : Str} {st : Stmt} {f : Addr} {fd : FuncData} {ps : List Str} {sp : Sp}
    (D : MDef K C m qual st f fd ps) (G : FnOk P w K mg base CX k f fd ps sp) : FnR P w K mg base CX k f sp := by
  have h := G.raw D.bd .nil
  simp only [List.append_nil] at h
  exact h
def spPairs (K : PySem.W.Frag) (C : Addr) : Sp := fun vs H Q _ => ∃ (p : Addr) (s : List Sx) (n : Nat), vs = [.ref p] ∧ SpAt K C H p s n ∧ ∀ l ys H', Ex H H' → H l = none → H' l = some (.lst ys) → DpAll K H' ys (s.map dSt) → Q (.ref l) H'
def spLenS (K : PySem.W.Frag) (C : Addr) : Sp := fun vs H Q _ => ∃ (p : Addr) (s : List Sx) (n : Nat), vs = [.ref p] ∧ SpAt K C H p s n ∧ Q (.int s.length) H
def spHas (K : PySem.W.Frag) (C : Addr) : Sp := fun vs H Q _ => ∃ (p : Addr) (s : List Sx) (n : Nat) (i : Int), vs = [.ref p, .int i] ∧ SpAt K C H p s n ∧ Q (.bl (Spn.holds s i)) H
def spOr (K : PySem.W.Frag) (C : Addr) : Sp := fun vs H Q _ => ∃ (p q : Addr) (s r : List Sx) (n m : Nat), vs = [.ref p, .ref q] ∧ SpAt K C H p s n ∧ SpAt K C H q r m ∧ n + m ≤ 100000 ∧
  ∀ x s' H', Ex H H' → SpAt K C H' x s' (n + m) → (∀ i, Spn.hasL s' i ↔ Spn.hasL s i ∨ Spn.hasL r i) → Q (.ref x) H'
def spAnd (K : PySem.W.Frag) (C : Addr) : Sp := fun vs H Q _ => ∃ (p q : Addr) (s r : List Sx) (n m : Nat), vs = [.ref p, .ref q] ∧ SpAt K C H p s n ∧ SpAt K C H q r m ∧ n + m ≤ 100000 ∧
  ∀ x s' H', Ex H H' → SpAt K C H' x s' (n + m) → (∀ i, Spn.hasL s' i ↔ Spn.hasL s i ∧ Spn.hasL r i) → Q (.ref x) H'
def spSub (K : PySem.W.Frag) (C : Addr) : Sp := fun vs H Q _ => ∃ (p q : Addr) (s r : List Sx) (n m : Nat), vs = [.ref p, .ref q] ∧ SpAt K C H p s n ∧ SpAt K C H q r m ∧ n + m + 1 ≤ 100000 ∧
  ∀ x s' H', Ex H H' → SpAt K C H' x s' (n + m + 1) → (∀ i, Spn.hasL s' i ↔ Spn.hasL s i ∧ ¬ Spn.hasL r i) → Q (.ref x) H'
def spInv (K : PySem.W.Frag) (C : Addr) : Sp := fun vs H Q _ => ∃ (p : Addr) (s : List Sx) (n : Nat), vs = [.ref p] ∧ SpAt K C H p s n ∧ n + 1 ≤ 100000 ∧
  ∀ x s' H', Ex H H' → SpAt K C H' x s' (n + 1) → (∀ i, Spn.hasL s' i ↔ ¬ Spn.hasL s i) → Q (.ref x) H'
def spEqS (K : PySem.W.Frag) (C : Addr) : Sp := fun vs H Q _ => ∃ (p : Addr) (s : List Sx) (n : Nat) (y : V), vs = [.ref p, y] ∧ SpAt K C H p s n ∧
  ((∃ (q : Addr) (r : List Sx) (m : Nat), y = .ref q ∧ SpAt K C H q r m ∧ Q (.bl (decide (s = r))) H) ∨ (∃ t, TyX K H y t ∧ PySem.W.kitOne K t (.ref C) = some false ∧ Q (.bl false) H))
section
variable {P : Program} {w : World} {K : PySem.W.Frag} {mg : Str → Option Value} {base : Heap} {C fI f_gaps f_met f_made f_spans_of : Addr} {fdI fd_gaps fd_met fd_made fd_spans_of : FuncData}
theorem ok_pairs {f : Addr} {fd : FuncData} (D : MDef K C "pairs" "Spans.pairs" s_Spans_pairs f fd ["self"]) (bi : Bi mg) (T_Spans : SpansT K mg C fI) : FnOk P w K mg base CX0 1 f fd ["self"] (spPairs K C) := by
  refine D.fn.ok sc_Spans_pairs (fun vs H Q E h => ?_) (fun cdv A outer s0 H vs Q E hr h => ?_)
  · obtain ⟨p, s, n, rfl, _⟩ := h
    rfl
  · obtain ⟨p, s, n, rfl, ⟨⟨dx, t, hp, xs, hq, hd⟩, cn, hz⟩, k⟩ := h
    refine ⟨_, (pss_one (ps_ret (pe_callTy call_list_of (by rfl) bi.list bt_list (pa_cons (pe_fld (pv 0) rfl) pa_nil)))), ?_⟩
    exact ⟨_, rfl, p, C, dx, _, _, rfl, hp, T_Spans.cl, T_Spans.ns, sp_look, t, xs, rfl, .inr hq, fun l nl => k l xs _ (Ex.new nl) nl upd_same (hd.to (Ex.new nl))⟩
theorem ok_len {f : Addr} {fd : FuncData} (D : MDef K C "__len__" "Spans.__len__" s_Spans___len f fd ["self"]) (bi : Bi mg) (T_Spans : SpansT K mg C fI) : FnOk P w K mg base CX0 1 f fd ["self"] (spLenS K C) := by
  refine D.fn.ok sc_Spans___len (fun vs H Q E h => ?_) (fun cdv A outer s0 H vs Q E hr h => ?_)
  · obtain ⟨p, s, n, rfl, _⟩ := h
    rfl
  · obtain ⟨p, s, n, rfl, ⟨⟨dx, t, hp, xs, hq, hd⟩, cn, hz⟩, k⟩ := h
    refine ⟨_, (pss_one (ps_ret (pe_callB call_len_seq (by rfl) bi.len bt_len (pa_cons (pe_fld (pv 0) rfl) pa_nil)))), ?_⟩
    refine ⟨_, rfl, p, C, dx, _, _, rfl, hp, T_Spans.cl, T_Spans.ns, sp_look, t, xs, rfl, .inr hq, ?_⟩
    rw [sts_len hd]
    exact k
theorem ok_has {f : Addr} {fd : FuncData} (D : MDef K C "__contains__" "Spans.__contains__" s_Spans___contains f fd ["self", "x"]) (bi : Bi mg) (T_Spans : SpansT K mg C fI) : FnOk P w K mg base CX0 1 f fd ["self", "x"] (spHas K C) := by
  refine D.fn.ok sc_Spans___contains (fun vs H Q E h => ?_) (fun cdv A outer s0 H vs Q E hr h => ?_)
  · obtain ⟨p, s, n, i, rfl, _⟩ := h
    rfl
  · obtain ⟨p, s, n, i, rfl, ⟨⟨dx, t, hp, xs, hq, hd⟩, cn, hz⟩, k⟩ := h
    refine ⟨_, (pss_cons (ps_if (L2.PW.pt (pw_or (pt_not (pt_val (pe_callB call_isi (by rfl) bi.isinstance bt_isinstance (pa_cons (pv 1) (pa_cons (pe_bltn (v := .ty "int") rfl bi.int bt_int rfl) pa_nil))))) (pw_or1 (pt_val (pe_callB call_isi (by rfl) bi.isinstance bt_isinstance (pa_cons (pv 1) (pa_cons (pe_bltn (v := .ty "bool") rfl bi.bool bt_bool rfl) pa_nil)))))))
    (pss_one (ps_ret pe_bl))
    pss_nil)
  (pss_cons (ps_for PassesOwn.never rfl (pi_tup (pe_fld (pv 0) rfl)) (pg_tup rfl (pgs_cons (pg_name (i := 2) sc_Spans___contains.nd rfl (Or.inl rfl)) (pgs_cons (pg_name (i := 3) sc_Spans___contains.nd rfl (Or.inl rfl)) pgs_nil)))
    (pss_one (ps_if (L2.PW.pt (pw_or (pt_cmpR op_isN (pv 3) pe_non (nomark _)) (pw_or1 (pt_cmpR op_le (pv 1) (pv 3) (nomark _)))))
      (pss_one (ps_ret (pe_or (pe_cmpR op_isN (pv 2) pe_non (nomark _)) (pe_one (pe_cmpR op_le (pv 2) (pv 1) (nomark _))))))
      pss_nil)))
  (pss_one (ps_ret pe_bl)))), ?_⟩
    obtain ⟨T, ht, h1, h2, h3⟩ := ty_vO (K := K) (H := H) (some i)
    refine ⟨_, rfl, .int i, .ty "int", T, .type "int", true, rfl, .ty "int", ht, h1, _, rfl, ?_⟩
    refine if_f rfl ⟨_, rfl, .int i, .ty "bool", T, .type "bool", false, rfl, .ty "bool", ht, h2, _, rfl, ?_⟩
    refine if_f rfl ?_
    refine ⟨_, rfl, p, C, dx, _, _, rfl, hp, T_Spans.cl, T_Spans.ns, sp_look, t, rfl, ⟨xs, hq⟩, ?_⟩
    refine for_tup (xs := xs) (fun j σ H' => ∃ (x2 x3 : Option V), σ = [some (.ref p), some (.int i), x2, x3] ∧ H' = H ∧ Spn.holds s i = Spn.holds (s.drop j) i) ?_ (fun i σ H' _ q => by obtain ⟨_, _, _, rfl, _⟩ := q; exact hq) ?_ ?_
    · exact ⟨none, none, rfl, rfl, rfl⟩
    · rintro j x σ H1 hx ⟨x2, x3, rfl, rfl, e⟩
      obtain ⟨⟨lo, hi⟩, q, hp', rfl, hs⟩ := sts_get hd hx
      rw [drop_cons hp'] at e
      refine ⟨q, _, rfl, hs, rfl, _, _, rfl, _, _, rfl, rfl, ?_⟩
      have last : Spn.geO hi i = true → Q (.bl (Spn.leO lo i)) H1 := fun g => by
        rw [Spn.holds, if_pos g] at e
        rw [← e]; exact k
      have yes : Spn.geO hi i = true → tRet (tOrV (tOp (fun x y H Q => y = V.non ∧ Q (V.bl (decide (x = V.non))) H) (tVar 2) (tC V.non)) (tOp (rI0 fun i j => V.bl (decide (i ≤ j))) (tVar 2) (tVar 1))) { nx := fun _ _ => False, rt := Q } [some (.ref p), some (.int i), some (vO lo), some (vO hi)] H1 := fun g => by
        have z := last g
        cases lo with
        | none => exact ⟨_, rfl, rfl, _, rfl, if_t rfl z⟩
        | some l => exact ⟨_, rfl, rfl, _, rfl, if_f rfl ⟨_, rfl, _, rfl, l, i, rfl, rfl, z⟩⟩
      cases hi with
      | none => exact ⟨_, rfl, rfl, _, rfl, if_t rfl (yes rfl)⟩
      | some u =>
        refine ⟨_, rfl, rfl, _, rfl, if_f rfl ⟨_, rfl, _, rfl, i, u, rfl, rfl, _, rfl, ?_⟩⟩
        refine if_d (fun h => yes (decide_eq_true h)) fun h => ?_
        refine ⟨_, _, rfl, rfl, ?_⟩
        rw [e, Spn.holds, if_neg (by simpa [Spn.geO] using h)]
    · rintro σ H1 ⟨x2, x3, rfl, rfl, e⟩
      rw [List.drop_of_length_le (by rw [sts_len hd]; exact Nat.le_refl _)] at e
      rw [e] at k
      exact k
theorem ok_or {f : Addr} {fd : FuncData} (D : MDef K C "__or__" "Spans.__or__" s_Spans___or f fd ["self", "other"]) (bi : Bi mg) (T_Spans : SpansT K mg C fI)
    (D_spans_of : Def K mg "spans_of" s_spans_of f_spans_of fd_spans_of ["pairs"])
    (G_spans_of : FnOk P w K mg base CX0 9 f_spans_of fd_spans_of ["pairs"] (spSpansOf K C)) : FnOk P w K mg base CX0 10 f fd ["self", "other"] (spOr K C) := by
  refine D.fn.ok sc_Spans___or (fun vs H Q E h => ?_) (fun cdv A outer s0 H vs Q E hr h => ?_)
  · obtain ⟨p, q, s, r, n, m, rfl, _⟩ := h
    rfl
  · obtain ⟨p, q, s, r, n, m, rfl, ⟨⟨dx, t, hp, xs, hq, hd⟩, cn, hz⟩, ⟨⟨dy, u, hp', ys, hq', hd'⟩, cn', hz'⟩, hnm, k⟩ := h
    refine ⟨_, (pss_one (ps_ret (pe_call G_spans_of (hr.mono (by first | decide | omega)) rfl D_spans_of.mg D_spans_of.fn.kp D_spans_of.bd .nil pass0 (pa_cons (pe_op op_catA (pe_fld (pv 0) rfl) (pe_fld (pv 1) rfl)) pa_nil)))), ?_⟩
    refine ⟨_, rfl, p, C, dx, _, _, rfl, hp, T_Spans.cl, T_Spans.ns, sp_look, _, rfl, q, C, dy, _, _, rfl, hp', T_Spans.cl, T_Spans.ns, sp_look, ?_⟩
    have ok : ∀ p ∈ s ++ r, Spn.ok p := fun z hz => (List.mem_append.mp hz).elim (cn.ok z) (cn'.ok z)
    have fin : ∀ v H', Ex H H' → StsB true K H' v (s ++ r) → spSpansOf K C [.ref v] H' Q E0 := fun v H' e hv =>
      ⟨v, true, s ++ r, rfl, hv, ok, by rw [List.length_append]; omega, fun x H2 e2 hx => k x _ H2 (e.trans e2) ⟨hx.1, hx.2.1, Nat.le_trans (Spn.joined_len _) (by rw [List.length_append]; omega)⟩ fun i => by rw [(Spn.joined_ok ok).2, Spn.hasL_append]⟩
    have lx := sts_len hd
    have ly := sts_len hd'
    refine ⟨t, u, xs, ys, rfl, rfl, hq, hq', by rw [sizeLine_eq]; omega, fun hx => ?_, fun hx hy => ?_, fun hx hy v nv => ?_⟩
    · subst hx
      have : s = [] := by cases s with | nil => rfl | cons _ _ => simp at lx
      subst this
      exact fin u H (Ex.refl _) ⟨ys, hq', hd'⟩
    · subst hy
      have : r = [] := by cases r with | nil => rfl | cons _ _ => simp at ly
      subst this
      rw [List.append_nil] at fin
      exact fin t H (Ex.refl _) ⟨xs, hq, hd⟩
    · refine fin v _ (Ex.new nv) ⟨xs ++ ys, SqT.of upd_same, ?_⟩
      rw [List.map_append]
      exact (hd.to (Ex.new nv)).app (hd'.to (Ex.new nv))
theorem ok_and {f : Addr} {fd : FuncData} (D : MDef K C "__and__" "Spans.__and__" s_Spans___and f fd ["self", "other"]) (bi : Bi mg) (T_Spans : SpansT K mg C fI)
    (D_met : Def K mg "_met" s_met f_met fd_met ["ones", "others"])
    (G_met : FnOk P w K mg base CX0 2 f_met fd_met ["ones", "others"] (spMet K))
    (D_made : Def K mg "_made" s_made f_made fd_made ["stretches"])
    (G_made : FnOk P w K mg base CX0 8 f_made fd_made ["stretches"] (spMade K C)) : FnOk P w K mg base CX0 9 f fd ["self", "other"] (spAnd K C) := by
  refine D.fn.ok sc_Spans___and (fun vs H Q E h => ?_) (fun cdv A outer s0 H vs Q E hr h => ?_)
  · obtain ⟨p, q, s, r, n, m, rfl, _⟩ := h
    rfl
  · obtain ⟨p, q, s, r, n, m, rfl, ⟨⟨dx, t, hp, ht⟩, cn, hz⟩, ⟨⟨dy, u, hp', hu⟩, cn', hz'⟩, hnm, k⟩ := h
    refine ⟨_, (pss_one (ps_ret (pe_call G_made (hr.mono (by first | decide | omega)) rfl D_made.mg D_made.fn.kp D_made.bd .nil pass0 (pa_cons (pe_call G_met (hr.mono (by first | decide | omega)) rfl D_met.mg D_met.fn.kp D_met.bd .nil pass0 (pa_cons (pe_fld (pv 0) rfl) (pa_cons (pe_fld (pv 1) rfl) pa_nil))) pa_nil)))), ?_⟩
    refine ⟨_, rfl, p, C, dx, _, _, rfl, hp, T_Spans.cl, T_Spans.ns, sp_look, _, rfl, q, C, dy, _, _, rfl, hp', T_Spans.cl, T_Spans.ns, sp_look, ?_⟩
    have ml := Spn.met_len s r
    obtain ⟨mc, mm⟩ := Spn.met_ok cn cn'
    refine ⟨t, u, true, true, s, r, rfl, ht, hu, by omega, by omega, fun l ys H1 e1 hl hd => ?_⟩
    exact ⟨l, false, _, rfl, ⟨ys, SqL.of hl, hd⟩, mc, by omega, fun x H2 e2 hx => k x _ H2 (e1.trans e2) ⟨hx.1, hx.2.1, by omega⟩ mm⟩
theorem ok_sub {f : Addr} {fd : FuncData} (D : MDef K C "__sub__" "Spans.__sub__" s_Spans___sub f fd ["self", "other"]) (bi : Bi mg) (T_Spans : SpansT K mg C fI)
    (D_gaps : Def K mg "_gaps" s_gaps f_gaps fd_gaps ["stretches"])
    (G_gaps : FnOk P w K mg base CX0 1 f_gaps fd_gaps ["stretches"] (spGaps K))
    (D_met : Def K mg "_met" s_met f_met fd_met ["ones", "others"])
    (G_met : FnOk P w K mg base CX0 2 f_met fd_met ["ones", "others"] (spMet K))
    (D_made : Def K mg "_made" s_made f_made fd_made ["stretches"])
    (G_made : FnOk P w K mg base CX0 8 f_made fd_made ["stretches"] (spMade K C)) : FnOk P w K mg base CX0 9 f fd ["self", "other"] (spSub K C) := by
  refine D.fn.ok sc_Spans___sub (fun vs H Q E h => ?_) (fun cdv A outer s0 H vs Q E hr h => ?_)
  · obtain ⟨p, q, s, r, n, m, rfl, _⟩ := h
    rfl
  · obtain ⟨p, q, s, r, n, m, rfl, ⟨⟨dx, t, hp, ht⟩, cn, hz⟩, ⟨⟨dy, u, hp', hu⟩, cn', hz'⟩, hnm, k⟩ := h
    refine ⟨_, (pss_one (ps_ret (pe_call G_made (hr.mono (by first | decide | omega)) rfl D_made.mg D_made.fn.kp D_made.bd .nil pass0 (pa_cons (pe_call G_met (hr.mono (by first | decide | omega)) rfl D_met.mg D_met.fn.kp D_met.bd .nil pass0 (pa_cons (pe_fld (pv 0) rfl) (pa_cons (pe_call G_gaps (hr.mono (by first | decide | omega)) rfl D_gaps.mg D_gaps.fn.kp D_gaps.bd .nil pass0 (pa_cons (pe_fld (pv 1) rfl) pa_nil)) pa_nil))) pa_nil)))), ?_⟩
    have gl := Spn.gaps_len r
    obtain ⟨gc, gm⟩ := Spn.gaps_ok cn'
    refine ⟨_, rfl, p, C, dx, _, _, rfl, hp, T_Spans.cl, T_Spans.ns, sp_look, _, rfl, q, C, dy, _, _, rfl, hp', T_Spans.cl, T_Spans.ns, sp_look, ?_⟩
    refine ⟨u, r, rfl, hu, cn', by omega, fun l0 zs H0 e0 hl0 hd0 => ?_⟩
    have ml := Spn.met_len s (Spn.gaps r)
    obtain ⟨mc, mm⟩ := Spn.met_ok cn gc
    refine ⟨t, l0, true, false, s, _, rfl, ht.to e0, ⟨zs, SqL.of hl0, hd0⟩, by omega, by omega, fun l ys H1 e1 hl hd => ?_⟩
    exact ⟨l, false, _, rfl, ⟨ys, SqL.of hl, hd⟩, mc, by omega, fun x H2 e2 hx => k x _ H2 ((e0.trans e1).trans e2) ⟨hx.1, hx.2.1, by omega⟩ fun i => by rw [mm, gm]⟩
theorem ok_inv {f : Addr} {fd : FuncData} (D : MDef K C "__invert__" "Spans.__invert__" s_Spans___invert f fd ["self"]) (bi : Bi mg) (T_Spans : SpansT K mg C fI)
    (D_gaps : Def K mg "_gaps" s_gaps f_gaps fd_gaps ["stretches"])
    (G_gaps : FnOk P w K mg base CX0 1 f_gaps fd_gaps ["stretches"] (spGaps K))
    (D_made : Def K mg "_made" s_made f_made fd_made ["stretches"])
    (G_made : FnOk P w K mg base CX0 8 f_made fd_made ["stretches"] (spMade K C)) : FnOk P w K mg base CX0 9 f fd ["self"] (spInv K C) := by
  refine D.fn.ok sc_Spans___invert (fun vs H Q E h => ?_) (fun cdv A outer s0 H vs Q E hr h => ?_)
  · obtain ⟨p, s, n, rfl, _⟩ := h
    rfl
  · obtain ⟨p, s, n, rfl, ⟨⟨dx, t, hp, ht⟩, cn, hz⟩, hn, k⟩ := h
    refine ⟨_, (pss_one (ps_ret (pe_call G_made (hr.mono (by first | decide | omega)) rfl D_made.mg D_made.fn.kp D_made.bd .nil pass0 (pa_cons (pe_call G_gaps (hr.mono (by first | decide | omega)) rfl D_gaps.mg D_gaps.fn.kp D_gaps.bd .nil pass0 (pa_cons (pe_fld (pv 0) rfl) pa_nil)) pa_nil)))), ?_⟩
    have gl := Spn.gaps_len s
    obtain ⟨gc, gm⟩ := Spn.gaps_ok cn
    refine ⟨_, rfl, p, C, dx, _, _, rfl, hp, T_Spans.cl, T_Spans.ns, sp_look, t, s, rfl, ht, cn, by omega, fun l ys H1 e1 hl hd => ?_⟩
    exact ⟨l, false, _, rfl, ⟨ys, SqL.of hl, hd⟩, gc, by omega, fun x H2 e2 hx => k x _ H2 (e1.trans e2) ⟨hx.1, hx.2.1, by omega⟩ gm⟩
theorem ok_eq {f g1 g2 g3 g4 g5 g6 : Addr} {fd : FuncData} (D : MDef K C "__eq__" "Spans.__eq__" s_Spans___eq f fd ["self", "other"]) (bi : Bi mg) (T_Spans : SpansT K mg C fI)
    (SO : SpOps K C g1 g2 g3 g4 g5 g6 f) : FnOk P w K mg base CX0 1 f fd ["self", "other"] (spEqS K C) := by
  refine D.fn.ok sc_Spans___eq (fun vs H Q E h => ?_) (fun cdv A outer s0 H vs Q E hr h => ?_)
  · obtain ⟨p, s, n, y, rfl, _⟩ := h
    rfl
  · obtain ⟨p, s, n, y, rfl, ⟨⟨dx, t, hp, ht⟩, cn, hz⟩, k⟩ := h
    have hu64 := hr.units
    refine ⟨_, (pss_one (ps_ret (pe_and (pe_callB call_isi (by rfl) bi.isinstance bt_isinstance (pa_cons (pv 1) (pa_cons (pe_glob (v := .ref C) rfl T_Spans.gC rfl) pa_nil))) (pe_one (pe_cmpR (op_eqD hu64) (pe_fld (pv 0) rfl) (pe_fld (pv 1) rfl) (nomark _)))))), ?_⟩
    rcases k with ⟨q, r, m, rfl, ⟨⟨dy, u, hq, hu⟩, cn', hz'⟩, k⟩ | ⟨ty, h1, h2, k⟩
    · refine ⟨_, rfl, _, .ref C, .ref C, .ref C, true, rfl, .own C, SO.ty T_Spans.cl hq, ko_self, ?_⟩
      refine ⟨_, rfl, if_t rfl ⟨_, rfl, p, C, dx, _, _, rfl, hp, T_Spans.cl, T_Spans.ns, sp_look, _, rfl, q, C, dy, _, _, rfl, hq, T_Spans.cl, T_Spans.ns, sp_look, _, _, sts_tup ht, sts_tup hu, (dSts_shaped s).1, (dSts_shaped r).1, ?_⟩⟩
      have e : PyData.eqv (.tuple (s.map dSt)) (.tuple (r.map dSt)) = decide (s = r) := by simp only [PyData.eqv]; exact dSts_eqv s r
      rw [e]; exact k
    · refine ⟨_, rfl, y, .ref C, ty, .ref C, false, rfl, .own C, h1, h2, ?_⟩
      exact ⟨_, rfl, if_f rfl k⟩
end
section
variable {K : PySem.W.Frag} {C : Addr} {H : Hp} {Q : VK} {p q : Addr} {s r : List Sx} {n m : Nat}
/-- Spans(..) of right stretches -/
theorem made_sp {l : Addr} {t : Bool} (hst : StsB t K H l s) (ok : ∀ p ∈ s, Spn.ok p) (hl : s.length ≤ n) (hn : n ≤ 100000)
    {R : Hp → Prop} {x dx : Addr} (nx : H x = none) (ndx : H dx = none) (k : ∀ s' H', Ex H H' → SpAt K C H' x s' n → (∀ i, Spn.hasL s' i ↔ Spn.hasL s i) → R H') :
    spSpansI K C (.ref x :: ([.ref l] ++ [])) (upd (upd H dx (.own x)) x (.ins C dx [])) (fun v H2 => v = .non ∧ R H2) E0 := by
  have e1 : Ex H (upd (upd H dx (.own x)) x (.ins C dx [])) := fun b o hb => by
    rw [upd_ne (fun z => by subst z; rw [hb] at nx; cases nx), upd_ne (fun z => by subst z; rw [hb] at ndx; cases ndx)]; exact hb
  refine ⟨x, dx, l, t, s, rfl, upd_same, hst.to e1, ok, by omega, fun u H2 hx fr hu => ⟨rfl, ?_⟩⟩
  have e2 : Ex H H2 := fun b o hb => fr b o (e1 _ _ hb) fun z => by subst z; rw [hb] at nx; cases nx
  obtain ⟨c, mm⟩ := Spn.joined_ok ok
  exact k _ H2 e2 ⟨⟨dx, u, hx, hu⟩, c, Nat.le_trans (Spn.joined_len s) hl⟩ mm
theorem use_or (hp : SpAt K C H p s n) (hq : SpAt K C H q r m) (le : n + m ≤ 100000) (k : ∀ x s' H', Ex H H' → SpAt K C H' x s' (n + m) → (∀ i, Spn.hasL s' i ↔ Spn.hasL s i ∨ Spn.hasL r i) → Q (.ref x) H') :
    rBinI C (spOr K C) E0 (.ref p) (.ref q) H Q := by
  obtain ⟨⟨dx, t, h1, _⟩, _⟩ := id hp
  obtain ⟨⟨dy, u, h2, _⟩, _⟩ := id hq
  exact ⟨p, q, dx, dy, _, _, rfl, rfl, h1, h2, p, q, s, r, n, m, rfl, hp, hq, le, k⟩
theorem use_and (hp : SpAt K C H p s n) (hq : SpAt K C H q r m) (le : n + m ≤ 100000) (k : ∀ x s' H', Ex H H' → SpAt K C H' x s' (n + m) → (∀ i, Spn.hasL s' i ↔ Spn.hasL s i ∧ Spn.hasL r i) → Q (.ref x) H') :
    rBinI C (spAnd K C) E0 (.ref p) (.ref q) H Q := by
  obtain ⟨⟨dx, t, h1, _⟩, _⟩ := id hp
  obtain ⟨⟨dy, u, h2, _⟩, _⟩ := id hq
  exact ⟨p, q, dx, dy, _, _, rfl, rfl, h1, h2, p, q, s, r, n, m, rfl, hp, hq, le, k⟩
theorem use_sub (hp : SpAt K C H p s n) (hq : SpAt K C H q r m) (le : n + m + 1 ≤ 100000) (k : ∀ x s' H', Ex H H' → SpAt K C H' x s' (n + m + 1) → (∀ i, Spn.hasL s' i ↔ Spn.hasL s i ∧ ¬ Spn.hasL r i) → Q (.ref x) H') :
    rBinI C (spSub K C) E0 (.ref p) (.ref q) H Q := by
  obtain ⟨⟨dx, t, h1, _⟩, _⟩ := id hp
  obtain ⟨⟨dy, u, h2, _⟩, _⟩ := id hq
  exact ⟨p, q, dx, dy, _, _, rfl, rfl, h1, h2, p, q, s, r, n, m, rfl, hp, hq, le, k⟩
theorem use_inv (hp : SpAt K C H p s n) (le : n + 1 ≤ 100000) (k : ∀ x s' H', Ex H H' → SpAt K C H' x s' (n + 1) → (∀ i, Spn.hasL s' i ↔ ¬ Spn.hasL s i) → Q (.ref x) H') :
    rInvI C (spInv K C) E0 (.ref p) H Q := by
  obtain ⟨⟨dx, t, h1, _⟩, _⟩ := id hp
  exact ⟨p, dx, _, rfl, h1, p, s, n, rfl, hp, le, k⟩
theorem use_eq {g1 g2 g3 g4 g5 g6 g7 : Addr} (SO : SpOps K C g1 g2 g3 g4 g5 g6 g7) (c : Cls K C) (hp : SpAt K C H p s n) (hq : SpAt K C H q r m) (k : Q (.bl (decide (s = r))) H) : rEqI K C (spEqS K C) E0 (.ref p) (.ref q) H Q := by
  obtain ⟨⟨dx, t, h1, _⟩, _⟩ := id hp
  obtain ⟨⟨dy, u, h2, _⟩, _⟩ := id hq
  exact ⟨p, dx, _, .ref C, rfl, h1, SO.ty c h2, nf_self, p, s, n, _, rfl, hp, .inl ⟨q, r, m, rfl, hq, k⟩⟩
theorem use_ne {g1 g2 g3 g4 g5 g6 g7 : Addr} (SO : SpOps K C g1 g2 g3 g4 g5 g6 g7) (c : Cls K C) (hp : SpAt K C H p s n) (hq : SpAt K C H q r m) (k : Q (.bl (!decide (s = r))) H) : rNeI K C (spEqS K C) E0 (.ref p) (.ref q) H Q := by
  obtain ⟨⟨dx, t, h1, _⟩, _⟩ := id hp
  obtain ⟨⟨dy, u, h2, _⟩, _⟩ := id hq
  exact ⟨p, dx, _, .ref C, rfl, h1, SO.ty c h2, nf_self, p, s, n, _, rfl, hp, .inl ⟨q, r, m, rfl, hq, _, rfl, k⟩⟩
theorem use_eq_no {y : V} {tb : Value} (hp : SpAt K C H p s n) (ty : TyX K H y tb) (nf : PySem.W.notFirst K C tb = true) (ko : PySem.W.kitOne K tb (.ref C) = some false) (k : Q (.bl false) H) : rEqI K C (spEqS K C) E0 (.ref p) y H Q := by
  obtain ⟨⟨dx, t, h1, _⟩, _⟩ := id hp
  exact ⟨p, dx, _, tb, rfl, h1, ty, nf, p, s, n, _, rfl, hp, .inr ⟨tb, ty, ko, k⟩⟩
/-- a method of a Spans is no field of it -/
theorem at_sp {nm : Str} (h : (nm == ("_stretches" : Str)) = false) (hp : SpAt K C H p s n) : ∃ dx fs, H p = some (.ins C dx fs) ∧ fs.lookup nm = none := by
  obtain ⟨⟨dx, t, h1, _⟩, _⟩ := hp
  exact ⟨dx, _, h1, sp_no h⟩
end
end K12

set_option Elab.async false
set_option linter.all false
set_option maxRecDepth 100000
set_option maxHeartbeats 4000000
namespace K12
open PySem PySem.Spec PyProof.Rows L2 Evl Gx RZ
abbrev s_l_lies : Stmt := topS 27
theorem sc_l_lies : FnScope ["_law_pairs", "_law_number", "_law_low", "_law_high"] ["_law_pairs", "_law_number"] (defScope s_l_lies) := ⟨rfl, rfl, rfl, by decide +kernel, rfl, by decide +kernel, by decide +kernel⟩
abbrev s_l_ends : Stmt := topS 28
theorem sc_l_ends : FnScope ["_law_pairs", "_law_found", "_law_pair", "_law_end"] ["_law_pairs"] (defScope s_l_ends) := ⟨rfl, rfl, rfl, by decide +kernel, rfl, by decide +kernel, by decide +kernel⟩
def spLies (K : PySem.W.Frag) : Sp := fun vs H Q _ => ∃ (a : Addr) (t : Bool) (s : List Sx) (i : Int), vs = [.ref a, .int i] ∧ StsB t K H a s ∧ ∀ H', Ex H H' → Q (.bl (Spn.lies s i)) H'
def spEnds (K : PySem.W.Frag) : Sp := fun vs H Q _ => ∃ (a : Addr) (t : Bool) (s : List Sx), vs = [.ref a] ∧ StsB t K H a s ∧ s.length ≤ 100000 ∧
  ∀ l H', Ex H H' → H' l = some (.lst ((Spn.endsOf s).map V.int)) → Q (.ref l) H'
def spDrawn (K : PySem.W.Frag) : Sp := fun vs H Q _ => ∃ b : Addr, vs = [.ref b] ∧ Bag H b ∧
  ∀ l ys s H', Ex H H' → H l = none → H' l = some (.lst ys) → DpAll K H' ys (s.map dSt) → (∀ p ∈ s, Spn.ok p) → Spn.Bnd s → s.length ≤ 5 → Q (.ref l) H'
section
variable {P : Program} {w : World} {K : PySem.W.Frag} {mg : Str → Option Value} {base : Heap} {f_l_take : Addr} {fd_l_take : FuncData}
theorem ok_lies {f : Addr} {fd : FuncData} (D : Def K mg "_law_lies" s_l_lies f fd ["_law_pairs", "_law_number"]) (bi : Bi mg) : FnOk P w K mg base CX0 1 f fd ["_law_pairs", "_law_number"] (spLies K) := by
  refine D.fn.ok sc_l_lies (fun vs H Q E h => ?_) (fun cdv A outer s0 H vs Q E hr h => ?_)
  · obtain ⟨a, t, s, i, rfl, _⟩ := h
    rfl
  · obtain ⟨a, t, s, i, rfl, ⟨xs, hq, hd⟩, k⟩ := h
    refine ⟨_, (pss_cons (ps_for PassesOwn.never rfl (pi_seq (K := K) rfl (pv 0)) (pg_tup rfl (pgs_cons (pg_name (i := 2) sc_l_lies.nd rfl (Or.inl rfl)) (pgs_cons (pg_name (i := 3) sc_l_lies.nd rfl (Or.inl rfl)) pgs_nil)))
    (pss_one (ps_if (L2.PW.pt (pw_and (L2.PW.pt (pw_or (pt_cmpR op_isN (pv 2) pe_non (nomark _)) (pw_or1 (pt_cmpR op_le (pv 2) (pv 1) (nomark _))))) (pw_and1 (L2.PW.pt (pw_or (pt_cmpR op_isN (pv 3) pe_non (nomark _)) (pw_or1 (pt_cmpR op_le (pv 1) (pv 3) (nomark _))))))))
      (pss_one (ps_ret pe_bl))
      pss_nil)))
  (pss_one (ps_ret pe_bl))), ?_⟩
    refine ⟨_, rfl, a, t, xs, rfl, hq, ?_⟩
    refine for_seq (fun j σ H' => ∃ (x2 x3 : Option V), σ = [some (.ref a), some (.int i), x2, x3] ∧ H' = H ∧ Spn.lies s i = Spn.lies (s.drop j) i) ?_ (fun i σ H' _ q => by obtain ⟨_, _, _, rfl, _⟩ := q; exact hq) ?_ ?_
    · exact ⟨none, none, rfl, rfl, rfl⟩
    · rintro j x σ H1 hx ⟨x2, x3, rfl, rfl, e⟩
      obtain ⟨⟨lo, hi⟩, q, hp', rfl, hs⟩ := sts_get hd hx
      rw [drop_cons hp'] at e
      refine ⟨q, _, rfl, hs, rfl, _, _, rfl, _, _, rfl, rfl, ?_⟩
      have yes : (Spn.leO lo i && Spn.geO hi i) = true → Q (.bl true) H1 := fun g => by
        have : Spn.lies s i = true := by rw [e]; unfold Spn.lies; rw [List.any_cons]; simp only [g, Bool.true_or]
        rw [this] at k; exact k _ (Ex.refl _)
      have no : (Spn.leO lo i && Spn.geO hi i) = false → Spn.lies s i = Spn.lies (s.drop (j + 1)) i := fun g => by
        rw [e]; unfold Spn.lies; rw [List.any_cons]; simp only [g, Bool.false_or]
      cases lo with
      | none =>
        refine ⟨_, rfl, rfl, _, rfl, if_t rfl (if_t rfl ?_)⟩
        cases hi with
        | none => exact ⟨_, rfl, rfl, _, rfl, if_t rfl (if_t rfl (yes (by simp only [Spn.leO, Bool.true_and]; simp [Spn.geO])))⟩
        | some u =>
          refine ⟨_, rfl, rfl, _, rfl, if_f rfl ⟨_, rfl, _, rfl, i, u, rfl, rfl, _, rfl, ?_⟩⟩
          refine if_d (fun h' => yes (by simp only [Spn.leO, Bool.true_and]; simp [Spn.geO, h'])) fun h' => ⟨_, _, rfl, rfl, no (by simp only [Spn.leO, Bool.true_and]; simp [Spn.geO, h'])⟩
      | some l =>
        refine ⟨_, rfl, rfl, _, rfl, if_f rfl ⟨_, rfl, _, rfl, l, i, rfl, rfl, _, rfl, ?_⟩⟩
        refine if_d (fun h => ?_) fun h => if_f rfl ⟨_, _, rfl, rfl, no (by simp [Spn.leO, h])⟩
        cases hi with
        | none => exact ⟨_, rfl, rfl, _, rfl, if_t rfl (if_t rfl (yes (by simp only [Spn.leO, decide_eq_true h, Bool.true_and]; simp [Spn.geO])))⟩
        | some u =>
          refine ⟨_, rfl, rfl, _, rfl, if_f rfl ⟨_, rfl, _, rfl, i, u, rfl, rfl, _, rfl, ?_⟩⟩
          refine if_d (fun h' => yes (by simp only [Spn.leO, decide_eq_true h, Bool.true_and]; simp [Spn.geO, h'])) fun h' => ⟨_, _, rfl, rfl, no (by simp only [Spn.leO, decide_eq_true h, Bool.true_and]; simp [Spn.geO, h'])⟩
    · rintro σ H1 ⟨x2, x3, rfl, rfl, e⟩
      rw [List.drop_of_length_le (by rw [sts_len hd]; exact Nat.le_refl _)] at e
      rw [e] at k
      exact k _ (Ex.refl _)
theorem ok_ends {f : Addr} {fd : FuncData} (D : Def K mg "_law_ends" s_l_ends f fd ["_law_pairs"]) (bi : Bi mg) : FnOk P w K mg base CX0 1 f fd ["_law_pairs"] (spEnds K) := by
  refine D.fn.ok sc_l_ends (fun vs H Q E h => ?_) (fun cdv A outer s0 H vs Q E hr h => ?_)
  · obtain ⟨a, t, s, rfl, _⟩ := h
    rfl
  · obtain ⟨a, t, s, rfl, ⟨xs, hq, hd⟩, hz, k⟩ := h
    refine ⟨_, (pss_cons (ps_set (i := 1) sc_l_ends.nd rfl (Or.inl rfl) (pe_lst (pa_cons (pe_un un_neg (pe_op op_pow pe_int pe_int)) (pa_cons (pe_un un_neg pe_int) (pa_cons pe_int (pa_cons pe_int (pa_cons (pe_op op_pow pe_int pe_int) pa_nil)))))))
  (pss_cons (ps_for PassesOwn.never rfl (pi_seq (K := K) rfl (pv 0)) (pg_name (i := 2) sc_l_ends.nd rfl (Or.inl rfl))
    (pss_one (ps_for PassesOwn.never rfl (pi_tup (pv 2)) (pg_name (i := 3) sc_l_ends.nd rfl (Or.inl rfl))
      (pss_one (ps_if (pt_cmpR op_notN (pv 3) pe_non (nomark _))
        (pss_one (ps_expr (pe_bm PySem.F.plainAttrs_list PySem.F.slot_list_extend PySem.F.type_list_extend mt_extend (pv 1) (pa_cons (pe_lst (pa_cons (pe_op op_sub (pv 3) pe_int) (pa_cons (pv 3) (pa_cons (pe_op op_add (pv 3) pe_int) pa_nil)))) pa_nil))))
        pss_nil)))))
  (pss_one (ps_ret (pv 1))))), ?_⟩
    have cp : CPow 10 59 := ⟨by decide, by decide, by decide⟩
    have p59 : (10 : Int) ^ (59 : Int).toNat = 10 ^ 59 := rfl
    refine ⟨10, 59, rfl, rfl, cp, _, rfl, 1, rfl, 10, 59, rfl, rfl, cp, sz5, fun F nF => ?_⟩
    have e1 : Ex H (upd H F (.lst [.int (-(10 ^ (59 : Int).toNat)), .int (-1), .int 0, .int 1, .int (10 ^ (59 : Int).toNat)])) := Ex.new nF
    have hF : upd H F (.lst [.int (-(10 ^ (59 : Int).toNat)), .int (-1), .int 0, .int 1, .int (10 ^ (59 : Int).toNat)]) F = some (.lst (([-(10 ^ 59), -1, 0, 1, 10 ^ 59] : List Int).map V.int)) := upd_same
    generalize upd H F (.lst [.int (-(10 ^ (59 : Int).toNat)), .int (-1), .int 0, .int 1, .int (10 ^ (59 : Int).toNat)]) = H1 at e1 hF ⊢
    have nFH : H F = none := nF
    refine ⟨_, rfl, a, t, xs, rfl, hq.to e1, ?_⟩
    refine for_seq (xs := xs) (fun j σ H' => j ≤ xs.length ∧ ∃ (x2 x3 : Option V), σ = [some (.ref a), some (.ref F), x2, x3] ∧ ExB F H1 H' ∧
      H' F = some (.lst (([-(10 ^ 59), -1, 0, 1, 10 ^ 59] ++ (s.take j).flatMap Spn.e6).map V.int))) ?_ (fun i σ H' _ q => ?_) ?_ ?_
    · exact ⟨Nat.zero_le _, none, none, rfl, .of (Ex.refl _), hF⟩
    · obtain ⟨_, _, _, _, e, _⟩ := q
      exact hq.to (exB_ex e e1 nFH)
    · rintro j x σ H2 hx ⟨hj, x2, x3, rfl, e2, hF2⟩
      obtain ⟨⟨lo, hi⟩, q, hp', rfl, hs⟩ := sts_get hd hx
      have hs2 := ex_t (exB_ex e2 e1 nFH) hs
      have jl : j < s.length := (List.getElem?_eq_some_iff.mp hp').1
      refine ⟨_, rfl, q, rfl, ⟨_, hs2⟩, ?_⟩
      have tk := takeS hp'
      have len : ∀ m, ((s.take m).flatMap Spn.e6).length ≤ 6 * s.length := fun m => Spn.ends_len s m
      have l1 := len j
      refine for_tup (xs := [vO lo, vO hi]) (fun i σ H' => i ≤ 2 ∧ ∃ (x3 : Option V), σ = [some (.ref a), some (.ref F), some (.ref q), x3] ∧ ExB F H1 H' ∧
        H' F = some (.lst (([-(10 ^ 59), -1, 0, 1, 10 ^ 59] ++ ((s.take j).flatMap Spn.e6) ++ ([lo, hi].take i).flatMap Spn.e3).map V.int))) ?_ (fun i σ H' _ z => ?_) ?_ ?_
      · exact ⟨Nat.zero_le _, x3, rfl, e2, by simpa using hF2⟩
      · obtain ⟨_, _, _, e, _⟩ := z
        exact ex_t (exB_ex e e1 nFH) hs
      · rintro i x σ H3 hx ⟨hi2, x3, rfl, e3, hF3⟩
        obtain ⟨o, ho, rfl⟩ : ∃ o, [lo, hi][i]? = some o ∧ x = vO o := by
          match i, hx with
          | 0, hx => exact ⟨lo, rfl, by simpa using hx.symm⟩
          | 1, hx => exact ⟨hi, rfl, by simpa using hx.symm⟩
          | n + 2, hx => simp at hx
        have il : i < 2 := (List.getElem?_eq_some_iff.mp ho).1
        have tk2 := takeS ho
        have l2 : (([lo, hi].take i).flatMap Spn.e3).length ≤ 3 := by
          match i, il with
          | 0, _ => simp
          | 1, _ => cases lo <;> simp [Spn.e3]
        cases o with
        | none =>
          refine ⟨_, rfl, rfl, _, rfl, if_f rfl ⟨il, _, rfl, e3, ?_⟩⟩
          rw [tk2, List.flatMap_append]
          simpa [Spn.e3] using hF3
        | some z =>
          refine ⟨_, rfl, rfl, _, rfl, if_t rfl ⟨_, rfl, .inl ⟨rfl, _, SqL.of hF3⟩, _, rfl, z, 1, rfl, rfl, _, rfl, _, rfl, z, 1, rfl, rfl, sz3, fun l nl => ?_⟩⟩
          have e4 : Ex H3 (upd H3 l (.lst [.int (z - 1), .int z, .int (z + 1)])) := Ex.new nl
          refine ⟨F, l, _, [.int (z - 1), .int z, .int (z + 1)], rfl, rfl, e4 _ _ hF3, upd_same, ?_, il, _, rfl, (e3.trans (.of e4)).trans .put, ?_⟩
          · rw [sizeLine_eq]
            simp only [List.length_map, List.length_append, List.length_cons, List.length_nil] at *
            omega
          · rw [upd_same, tk2, List.flatMap_append]
            simp [Spn.e3]
      · rintro σ H3 ⟨_, x3, rfl, e3, hF3⟩
        refine ⟨by rw [sts_len hd]; exact jl, _, _, rfl, e3, ?_⟩
        rw [tk, List.flatMap_append]
        simpa [Spn.e3, Spn.e6] using hF3
    · rintro σ H2 ⟨_, x2, x3, rfl, e2, hF2⟩
      refine ⟨_, rfl, k F H2 (exB_ex e2 e1 nFH) ?_⟩
      rw [List.take_of_length_le (by rw [sts_len hd]; exact Nat.le_refl _)] at hF2
      exact hF2
end
end K12

set_option Elab.async false
set_option linter.all false
set_option maxRecDepth 100000
set_option maxHeartbeats 4000000
namespace K12
open PySem PySem.Spec PyProof.Rows L2 Evl Gx RZ
abbrev s_l_drawn_pairs : Stmt := topS 26
theorem sc_l_drawn_pairs : FnScope ["_law_bag_here", "_law_found", "_law_k", "_law_low", "_law_high", "_law_way"] ["_law_bag_here"] (defScope s_l_drawn_pairs) := ⟨rfl, rfl, rfl, by decide +kernel, rfl, by decide +kernel, by decide +kernel⟩
section
variable {P : Program} {w : World} {K : PySem.W.Frag} {mg : Str → Option Value} {base : Heap} {f_l_take : Addr} {fd_l_take : FuncData}
theorem ok_drawn {f : Addr} {fd : FuncData} (D : Def K mg "_law_drawn_pairs" s_l_drawn_pairs f fd ["_law_bag_here"]) (bi : Bi mg)
    (D_l_take : Def K mg "_law_take" s_l_take f_l_take fd_l_take ["_law_bag_here", "_law_many_here"])
    (G_l_take : FnOk P w K mg base CX0 1 f_l_take fd_l_take ["_law_bag_here", "_law_many_here"] spTake) : FnOk P w K mg base CX0 2 f fd ["_law_bag_here"] (spDrawn K) := by
  refine D.fn.ok sc_l_drawn_pairs (fun vs H Q E h => ?_) (fun cdv A outer s0 H vs Q E hr h => ?_)
  · obtain ⟨b, rfl, _⟩ := h
    rfl
  · obtain ⟨b, rfl, hb, k⟩ := h
    refine ⟨_, (pss_cons (ps_set (i := 1) sc_l_drawn_pairs.nd rfl (Or.inl rfl) (pe_lst pa_nil))
  (pss_cons (ps_for PassesOwn.never rfl (pi_range1 rfl bi.range (pa_cons (pe_call G_l_take (hr.mono (by first | decide | omega)) rfl D_l_take.mg D_l_take.fn.kp D_l_take.bd .nil pass0 (pa_cons (pv 0) (pa_cons pe_int pa_nil))) pa_nil)) (pg_name (i := 2) sc_l_drawn_pairs.nd rfl (Or.inl rfl))
    (pss_cons (ps_set (i := 3) sc_l_drawn_pairs.nd rfl (Or.inl rfl) (pe_op op_sub (pe_call G_l_take (hr.mono (by first | decide | omega)) rfl D_l_take.mg D_l_take.fn.kp D_l_take.bd .nil pass0 (pa_cons (pv 0) (pa_cons pe_int pa_nil))) pe_int))
    (pss_cons (ps_par (i := 4) (j := 5) rfl sc_l_drawn_pairs.nd rfl rfl (by decide) rfl rfl (pa_cons (pe_op op_add (pv 3) (pe_call G_l_take (hr.mono (by first | decide | omega)) rfl D_l_take.mg D_l_take.fn.kp D_l_take.bd .nil pass0 (pa_cons (pv 0) (pa_cons pe_int pa_nil)))) (pa_cons (pe_call G_l_take (hr.mono (by first | decide | omega)) rfl D_l_take.mg D_l_take.fn.kp D_l_take.bd .nil pass0 (pa_cons (pv 0) (pa_cons pe_int pa_nil))) pa_nil)) (by rfl))
    (pss_cons (ps_if (pt_cmpR op_eq (pv 5) pe_int (nomark _))
      (pss_one (ps_set (i := 3) sc_l_drawn_pairs.nd rfl (Or.inl rfl) pe_non))
      pss_nil)
    (pss_cons (ps_if (pt_cmpR op_eq (pv 5) pe_int (nomark _))
      (pss_one (ps_set (i := 4) sc_l_drawn_pairs.nd rfl (Or.inl rfl) pe_non))
      pss_nil)
    (pss_cons (ps_if (pt_cmpR op_eq (pv 5) pe_int (nomark _))
      (pss_one (ps_par (i := 3) (j := 4) rfl sc_l_drawn_pairs.nd rfl rfl (by decide) rfl rfl (pa_cons (pe_op op_mul (pv 3) (pe_op op_pow pe_int pe_int)) (pa_cons (pe_ifExp (pt_cmpR op_gt (pv 3) pe_int (nomark _)) pe_non (pv 4)) pa_nil)) (by rfl)))
      pss_nil)
    (pss_one (ps_expr (pe_bm PySem.F.plainAttrs_list PySem.F.slot_list_append PySem.F.type_list_append mt_append (pv 1) (pa_cons (pe_tup (pa_cons (pv 3) (pa_cons (pv 4) pa_nil))) pa_nil))))))))))
  (pss_one (ps_ret (pv 1))))), ?_⟩
    refine ⟨Nat.zero_le _, fun F nF => ?_⟩
    have e1 : Ex H (upd H F (.lst [])) := Ex.new nF
    have hF : upd H F (.lst []) F = some (.lst []) := upd_same
    generalize upd H F (.lst []) = H1 at e1 hF ⊢
    have hb1 := hb.to e1
    refine ⟨_, rfl, b, 6, rfl, hb1, by decide, by decide, fun m m0 m1 => ⟨m, rfl, by omega, by omega, ?_⟩⟩
    refine for_range (n := m.toNat) (fun i σ H' => i ≤ 5 ∧ ∃ (x2 x3 x4 x5 : Option V) (ys : List V) (s : List Sx), σ = [some (.ref b), some (.ref F), x2, x3, x4, x5] ∧ ExB F H1 H' ∧ H' F = some (.lst ys) ∧ DpAll K H' ys (s.map dSt) ∧
      (∀ p ∈ s, Spn.ok p) ∧ Spn.Bnd s ∧ s.length = i) ?_ ?_ ?_
    · exact ⟨Nat.zero_le _, none, none, none, none, [], [], rfl, .of (Ex.refl _), hF, .nil, by simp, (fun p hp => by cases hp), rfl⟩
    · rintro i σ H2 hi ⟨hi5, x2, x3, x4, x5, ys, s, rfl, e2, hF2, hp, ho, hbd, hs⟩
      have hb2 := hb.to (exB_ex e2 e1 nF)
      refine ⟨_, rfl, b, 25, rfl, hb2, by decide, by decide, fun x x0 x1 => ⟨x, 12, rfl, rfl, ?_⟩⟩
      refine ⟨_, rfl, _, rfl, b, 7, rfl, hb2, by decide, by decide, fun y y0 y1 => ⟨x - 12, y, rfl, rfl, ?_⟩⟩
      refine ⟨_, rfl, b, 10, rfl, hb2, by decide, by decide, fun way w0 w1 => ?_⟩
      refine ⟨_, _, rfl, ?_⟩
      -- behind the ways
      have c40 : CPow 10 40 := ⟨by decide, by decide, by decide⟩
      have p40 : (10 : Int) ^ (40 : Int).toNat = 10 ^ 40 := rfl
      have goal : ∀ (wk wy : V) (lo hi : Option Int), Spn.ok (lo, hi) → ((∀ l, lo = some l → -(10 ^ 50) ≤ l ∧ l ≤ 10 ^ 50) ∧ (∀ h, hi = some h → -(10 ^ 50) ≤ h ∧ h ≤ 10 ^ 50)) → ∀ tp, H2 tp = none →
          i + 1 ≤ 5 ∧ ∃ (x2 x3 x4 x5 : Option V) (ys' : List V) (s : List Sx), [some (V.ref b), some (V.ref F), some wk, some (vO lo), some (vO hi), some wy] = [some (.ref b), some (.ref F), x2, x3, x4, x5] ∧
          ExB F H1 (upd (upd H2 tp (.tup [vO lo, vO hi])) F (.lst (ys ++ [.ref tp]))) ∧ (upd (upd H2 tp (.tup [vO lo, vO hi])) F (.lst (ys ++ [.ref tp]))) F = some (.lst ys') ∧
          DpAll K (upd (upd H2 tp (.tup [vO lo, vO hi])) F (.lst (ys ++ [.ref tp]))) ys' (s.map dSt) ∧ (∀ p ∈ s, Spn.ok p) ∧ Spn.Bnd s ∧ s.length = i + 1 := fun wk wy lo hi hok hb tp np => by
        have e5 : Ex H2 (upd H2 tp (.tup [vO lo, vO hi])) := Ex.new np
        have ht5 : upd H2 tp (.tup [vO lo, vO hi]) tp = some (.tup [vO lo, vO hi]) := upd_same
        generalize upd H2 tp (.tup [vO lo, vO hi]) = H5 at e5 ht5 ⊢
        have hF5 := e5 _ _ hF2
        have e6 : ExI H5 (upd H5 F (.lst (ys ++ [.ref tp]))) := ExI.put hF5 rfl
        refine ⟨by omega, _, _, _, _, ys ++ [.ref tp], s ++ [(lo, hi)], rfl, (e2.trans (.of e5)).trans .put, upd_same, ?_, fun p hp => ?_, fun p hp => ?_, by simp [hs]⟩
        · rw [List.map_append]
          exact (dpAll_exI e6 _ _ (dSts_flat _) (hp.to e5)).app (.one (dp_exI e6 _ _ (dSt_flat (lo, hi)) (dSt_mk (p := (lo, hi)) (SqT.of ht5))))
        · rcases List.mem_append.mp hp with g | g
          · exact ho p g
          · rw [List.mem_singleton] at g; subst g; exact hok
        · rcases List.mem_append.mp hp with g | g
          · exact hbd p g
          · rw [List.mem_singleton] at g; subst g; exact hb
      have app : ∀ (wy : V) (lo hi : Option Int), Spn.ok (lo, hi) → ((∀ l, lo = some l → -(10 ^ 50) ≤ l ∧ l ≤ 10 ^ 50) ∧ (∀ h, hi = some h → -(10 ^ 50) ≤ h ∧ h ≤ 10 ^ 50)) → ∀ tp, H2 tp = none → (upd H2 tp (.tup [vO lo, vO hi])) F = some (.lst ys) := fun _ lo hi _ _ tp np => (Ex.new np) _ _ hF2
      have sz : ys.length < sizeLine := by rw [(sts_len hp), hs]; exact small (by omega)
      have ok1 : Spn.ok (none, some (x - 12 + y)) := fun l h e _ => by cases e
      have ok2 : Spn.ok (some (x - 12), none) := fun l h _ e => by cases e
      have ok3 : Spn.ok (some (x - 12), some (x - 12 + y)) := fun l h e e' => by cases e; cases e'; omega
      have b1 : ∀ l, (none : Option Int) = some l → -(10 ^ 50) ≤ l ∧ l ≤ 10 ^ 50 := fun l e => by cases e
      have b2 : ∀ l, some (x - 12) = some l → -(10 ^ 50) ≤ l ∧ l ≤ 10 ^ 50 := fun l e => by cases e; omega
      have b3 : ∀ l, some (x - 12 + y) = some l → -(10 ^ 50) ≤ l ∧ l ≤ 10 ^ 50 := fun l e => by cases e; omega
      have b4 : ∀ l, some ((x - 12) * 10 ^ 40) = some l → -(10 ^ 50) ≤ l ∧ l ≤ 10 ^ 50 := fun l e => by cases e; omega
      by_cases h0 : way = 0
      · subst h0
        refine ⟨_, rfl, rfl, _, rfl, if_t rfl ⟨_, rfl, rfl, _, rfl, if_f rfl ⟨_, rfl, rfl, _, rfl, if_f rfl ⟨_, rfl, .inl ⟨rfl, _, SqL.of hF2⟩, _, rfl, _, rfl, sz2, fun tp np => ⟨F, ys, _, rfl, rfl, app (.int 0) none (some (x - 12 + y)) ?_ ?_ tp np, sz, goal (.int (0 + (i : Nat))) (.int 0) none (some (x - 12 + y)) ?_ ?_ tp np⟩⟩⟩⟩⟩
        all_goals first | exact ok1 | exact ⟨b1, b3⟩
      by_cases h1 : way = 1
      · subst h1
        refine ⟨_, rfl, rfl, _, rfl, if_f rfl ⟨_, rfl, rfl, _, rfl, if_t rfl ⟨_, rfl, rfl, _, rfl, if_f rfl ⟨_, rfl, .inl ⟨rfl, _, SqL.of hF2⟩, _, rfl, _, rfl, sz2, fun tp np => ⟨F, ys, _, rfl, rfl, app (.int 1) (some (x - 12)) none ?_ ?_ tp np, sz, goal (.int (0 + (i : Nat))) (.int 1) (some (x - 12)) none ?_ ?_ tp np⟩⟩⟩⟩⟩
        all_goals first | exact ok2 | exact ⟨b2, b1⟩
      by_cases h2 : way = 2
      · subst h2
        refine ⟨_, rfl, rfl, _, rfl, if_f rfl ⟨_, rfl, rfl, _, rfl, if_f rfl ⟨_, rfl, rfl, _, rfl, if_t rfl ?_⟩⟩⟩
        refine ⟨_, rfl, 10, 40, rfl, rfl, c40, x - 12, _, rfl, rfl, .inl ⟨by omega, by omega⟩, _, rfl, x - 12, 0, rfl, rfl, _, rfl, ?_⟩
        refine if_d (fun hp => ?_) fun hp => ?_
        · refine ⟨_, _, rfl, ⟨_, rfl, .inl ⟨rfl, _, SqL.of hF2⟩, _, rfl, _, rfl, sz2, fun tp np => ⟨F, ys, _, rfl, rfl, app (.int 2) (some ((x - 12) * 10 ^ 40)) none ?_ ?_ tp np, sz, goal (.int (0 + (i : Nat))) (.int 2) (some ((x - 12) * 10 ^ 40)) none ?_ ?_ tp np⟩⟩⟩
          all_goals first | exact ⟨b4, b1⟩ | exact fun l h _ e => by cases e
        · refine ⟨_, rfl, _, _, rfl, ⟨_, rfl, .inl ⟨rfl, _, SqL.of hF2⟩, _, rfl, _, rfl, sz2, fun tp np => ⟨F, ys, _, rfl, rfl, app (.int 2) (some ((x - 12) * 10 ^ 40)) (some (x - 12 + y)) ?_ ?_ tp np, sz, goal (.int (0 + (i : Nat))) (.int 2) (some ((x - 12) * 10 ^ 40)) (some (x - 12 + y)) ?_ ?_ tp np⟩⟩⟩
          all_goals first | exact ⟨b4, b3⟩ | exact fun l h e e' => by cases e; cases e'; omega
      · refine ⟨_, rfl, rfl, _, rfl, if_f (decide_eq_false fun z => h0 (V.int.inj z)) ⟨_, rfl, rfl, _, rfl, if_f (decide_eq_false fun z => h1 (V.int.inj z)) ⟨_, rfl, rfl, _, rfl, if_f (decide_eq_false fun z => h2 (V.int.inj z)) ⟨_, rfl, .inl ⟨rfl, _, SqL.of hF2⟩, _, rfl, _, rfl, sz2, fun tp np => ⟨F, ys, _, rfl, rfl, app (.int way) (some (x - 12)) (some (x - 12 + y)) ?_ ?_ tp np, sz, goal (.int (0 + (i : Nat))) (.int way) (some (x - 12)) (some (x - 12 + y)) ?_ ?_ tp np⟩⟩⟩⟩⟩
        all_goals first | exact ok3 | exact ⟨b2, b3⟩
    · rintro σ H2 ⟨_, x2, x3, x4, x5, ys, s, rfl, e2, hF2, hp, ho, hbd, hs⟩
      exact ⟨_, rfl, k F ys s H2 (exB_ex e2 e1 nF) nF hF2 hp ho hbd (by omega)⟩
end
end K12

set_option Elab.async false
set_option linter.all false
set_option maxRecDepth 100000
set_option maxHeartbeats 1000000
/-! min(ints, key=f, default=None), f(n) a tuple of |n| and n < 0. -/
namespace Gx
open PySem PySem.Spec PyProof.Rows L2 Evl
section
variable {X : Cx} {pins : List (Addr × Obj)} {σ : L2.St} {H : Hp} {s : Shared} {h' : Heap}
/-- two objects that are not tracked have changed -/
theorem turned2 {t' : Nat} {a c : Addr} (I : L2.Inv X pins σ H s) (k : ∀ b o, b ≠ a → b ≠ c → s.heap.get? b = some o → h'.get? b = some o) (fa : FpOk X pins H a) (fc : FpOk X pins H c) :
    L2.Inv X pins σ H { s with heap := h', toks := t' } := by
  obtain ⟨na, La, _, a1, a2, a3⟩ := fa
  obtain ⟨nc, Lc, _, c1, c2, c3⟩ := fc
  have nia : ∀ b u, H b = some u → b ≠ a := fun b u e z => by rw [z, na] at e; cases e
  have nic : ∀ b u, H b = some u → b ≠ c := fun b u e z => by rw [z, nc] at e; cases e
  refine I.step (g' := s.gens) (d' := s.drawn) (ch := [a, c]) (fun b hb => ?_) (fun b o _ _ hc e _ => k b o (fun z => hc (by simp [z])) (fun z => hc (by simp [z])) e) (fun b o _ _ hc e _ => ⟨o.slots, k b o (fun z => hc (by simp [z])) (fun z => hc (by simp [z])) e⟩) (fun _ _ _ _ n => n)
    (fun b o hc e => ⟨o, k b o (fun z => hc (by simp [z])) (fun z => hc (by simp [z])) e⟩) (fun _ _ e => e) (fun _ _ _ e => e) (fun b ps e => ⟨#[], by rw [e]; simp⟩) (fun m hm => ?_) (fun b u e => ?_) I.bare
  · rcases List.mem_cons.mp hb with e | hb
    · subst e; exact ⟨a1, La, a2, a3⟩
    · have e : b = c := by simpa using hb
      subst e; exact ⟨c1, Lc, c2, c3⟩
  · obtain ⟨o, es, ep, ho, r⟩ := hm
    exact ⟨o, es, ep, k _ o (Ne.symm La) (Ne.symm Lc) ho, r⟩
  · refine (I.hok b u e).stay (fun d v hd q => k d v ?_ ?_ q) (fun _ q => q) fun _ _ q => q
    · rcases hd with z | z
      · rw [z]; exact nia b u e
      · intro w
        rw [w] at z
        exact absurd na (by rw [z]; simp)
    · rcases hd with z | z
      · rw [z]; exact nic b u e
      · intro w
        rw [w] at z
        exact absurd nc (by rw [z]; simp)
end
/-- what _distance promises -/
def spDist (K : PySem.W.Frag) : Sp := fun vs H Q _ => ∃ n : Int, vs = [.int n] ∧ ∀ T, H T = none → Q (.ref T) (upd H T (.tup [.int (if n < 0 then -n else n), .bl (decide (n < 0))]))
/-- the order by it -/
def distC (n : Int) : Int := if n < 0 then 2 * -n + 1 else 2 * n
theorem dist_lt (n m : Int) : PySem.W.dataLt (.tuple [.int (if n < 0 then -n else n), .bool (decide (n < 0))]) (.tuple [.int (if m < 0 then -m else m), .bool (decide (m < 0))]) = decide (distC n < distC m) := by
  rw [PySem.W.dataLt_pair rfl rfl]
  unfold distC
  by_cases h1 : n < 0 <;> by_cases h2 : m < 0 <;> simp only [h1, h2, if_true, if_false, decide_true, decide_false, PyData.eqv, PySem.W.dataLt_int, PySem.W.dataLt_bool] <;>
    (split <;> (rename_i h; simp only [beq_iff_eq] at h) <;> simp [b2i] <;> omega)
def rMinK (K : PySem.W.Frag) (f : Addr) : List V → List V → Hp → VK → Prop := fun vs zs H Q => ∃ (l : Addr) (ns : List Int), vs = [.ref l] ∧ zs = [.ref f, .non] ∧ H l = some (.lst (ns.map V.int)) ∧
  (ns = [] → ∀ H', ExB l H H' → Q .non H') ∧ (∀ n ∈ ns, (∀ m ∈ ns, distC n ≤ distC m) → ∀ H', ExB l H H' → Q (.int n) H')
theorem cr_minK {X : Cx} {f : Addr} {k : Nat} (F : FnR X.prog X.w X.K X.mg X.base CX0 k f (spDist X.K)) (hr : Room (k + 3) X.A) (hcalm : X.calm = true) :
    CallRK X (.builtin "min") [Str.ofString "key", Str.ofString "default"] (rMinK X.K f) := by
  intro pins s σ H vs zs us ws Q I r rz h
  obtain ⟨l, ns, rfl, rfl, hl, q0, q1⟩ := h
  obtain rfl := Vals.ref1 r
  obtain ⟨w1, w2, rfl, e1, e2⟩ := vals2 rz
  obtain rfl : w1 = Value.ref f := e1
  obtain rfl : w2 = Value.none := e2
  obtain ⟨its, rv, pl, hz⟩ := I.list (SqL.of hl)
  obtain ⟨o, n0, ho, hc, hd, hdat⟩ := id pl
  have lit : its.length = ns.length := by have := rv.length; rw [List.length_map] at this; exact this.symm
  -- the list is sealed
  have I1 : L2.Inv X pins σ (upd H l (.ext fun h => h.get? l = some o)) s :=
    I.write (x := l) (e := l) (h' := s.heap) (t' := s.toks) (by rw [hl]; trivial) (.inl rfl) (fun _ _ _ e => e) ⟨o, ho⟩ ⟨ho, ⟨o, ho⟩, fun h1 h2 e k => k o e⟩
  have hh : X.A.in1.handled = none := I.ok.hd hcalm
  refine PySem.call_min_walkKD ?_
  refine PySem.W.iter_listW hh pl.isList fun s₂ e₂ W st hlt hold keep => ?_
  have I2 : L2.Inv X pins σ (upd H l (.ext fun h => h.get? l = some o)) s₂ := by
    subst e₂
    exact I1.kept (t' := s.toks) fun b u e => Heap.get?_push_of_some _ e
  have sz2 : s₂.heap.objs.size = s.heap.objs.size + 1 := by subst e₂; exact Heap.size_push ..
  let J : Shared → Prop := fun s' => ∃ H', (∀ b u, (upd H l (.ext fun h => h.get? l = some o)) b = some u → H' b = some u) ∧ (∀ b u, H' b = some u → (upd H l (.ext fun h => h.get? l = some o)) b = some u ∨ (∃ a b, u = .tup [.int a, .bl b])) ∧
    L2.Inv X pins σ H' s' ∧ FpOk X pins H' s₂.heap.objs.size ∧ FpOk X pins H' s.heap.objs.size
  let V0 : Nat → Value → Shared → Prop := fun i k s' => ∃ (T : Addr) (t : Tok), k = .ref T ∧ (T ≠ s₂.heap.objs.size ∧ T ≠ s.heap.objs.size ∧ (upd H l (.ext fun h => h.get? l = some o)) T = none ∧ T ∉ frs X.stack) ∧ IsTup s'.heap T #[.int (if ns.getD i 0 < 0 then -(ns.getD i 0) else ns.getD i 0) t, .bool (decide (ns.getD i 0 < 0))]
  refine ⟨s.heap.objs.size, _, _, _, its.toArray.size, _, _, J, V0, fun i j => decide (distC (ns.getD i 0) < distC (ns.getD j 0)), rfl, W, st, hlt, ?_, ?_, ?_, ?_⟩
  · refine ⟨?_, ?_, ?_, ?_⟩
    · rintro s3 s4 ⟨H', h1, h2, I', fS, fI⟩ mv
      obtain ⟨hp, gn, dr, os, tk⟩ := mv
      obtain ⟨hh4, g4, d4, t4, os4⟩ := s4
      dsimp only at hp gn dr os tk
      subst gn dr os
      exact ⟨H', h1, h2, turned2 (h' := hh4) (t' := t4) I' (fun b ob n1 n2 e => hp b ob (by simp [n1, n2]) e) fS fI, fS, fI⟩
    · rintro i kk s3 s4 ⟨T, t, rfl, ⟨m1, m2, m3, m4⟩, o', e', z⟩ mv
      exact ⟨T, t, rfl, ⟨m1, m2, m3, m4⟩, o', mv.heap T o' (by simp [m1, m2]) e', z⟩
    · rintro i v s3 ob Q3 E3 hi hv ⟨H', h1, h2, I', fS, fI⟩ st3 hS kk
      have il : i < ns.length := by rw [← lit]; simpa using hi
      have hm : ns[i]? = some (ns.getD i 0) := by rw [List.getElem?_eq_getElem il, List.getD_eq_getElem?_getD, List.getElem?_eq_getElem il]; rfl
      obtain ⟨u, hu, ru⟩ := rv.get (i := i) (x := V.int (ns.getD i 0)) (by rw [List.getElem?_map, hm]; rfl)
      have hv' : its[i]? = some v := by simpa using hv
      rw [hv'] at hu
      cases hu
      have r1 : Room k X.A.in1 := (hr.mono (by omega : k + 1 ≤ k + 3)).in1
      obtain ⟨n, hn⟩ : ∃ n, n = ns.getD i 0 := ⟨_, rfl⟩
      rw [← hn] at ru hm
      have r2 : Room k X.A.in1 := r1
      refine wpAny_call (codeAny_mono (F X.A.in1 X.stack s3 H' [v] [.int n] (fun z H2 => ∃ T, z = .ref T ∧ H' T = none ∧ H2 = upd H' T (.tup [.int (if n < 0 then -n else n), .bl (decide (n < 0))])) E0 r2 I'.env0.in1 (.cons ru .nil) ⟨n, rfl, fun T nT => ⟨T, rfl, nT, rfl⟩⟩) ?_)
      intro rr s4 hq
      match rr, hq with
      | .error z, hq => exact hq.elim
      | .ok (.ret uu), hq =>
        obtain ⟨z, H2, os, bare, un, hok, rz, T, rfl, nT, rfl⟩ := id hq
        cases rz
        obtain ⟨_, _, I4, _, rfl⟩ := I'.after (Q := fun _ H3 => H3 = upd H' T (.tup [.int (if n < 0 then -n else n), .bl (decide (n < 0))])) ⟨.ref T, _, os, bare, un, hok, (show RelV (.ref T) (.ref T) from rfl), rfl⟩
        have stay : ∀ b ob, H' b = none → b ∉ frs X.stack → s3.heap.get? b = some ob → s4.heap.get? b = some ob := fun b ob n1 n2 e => un.keep b ob e n1 n2 (by simp)
        have nst : ∀ b, FpOk X pins H' b → b ∉ frs X.stack := fun b fb hb => by
          rcases List.mem_cons.mp (I'.stkSub b hb) with e | e
          · exact fb.2.1 e
          · exact fb.2.2.1 e
        have nTs : T ∉ frs X.stack := fun hb => by
          have := I4.stkFree T hb
          rw [upd_same] at this
          cases this
        have nTS : s₂.heap.objs.size ≠ T := fun w => by
          have := un.free _ ob hS fS.1 (by simp)
          rw [w, upd_same] at this
          cases this
        have nTI : s.heap.objs.size ≠ T := fun w => by
          obtain ⟨s31, s32⟩ := st3
          obtain ⟨oi, ei, _⟩ := id s31
          have := un.free _ oi ei fI.1 (by simp)
          rw [w, upd_same] at this
          cases this
        have n0T : (upd H l (.ext fun h => h.get? l = some o)) T = none := by
          cases e : (upd H l (.ext fun h => h.get? l = some o)) T with
          | none => rfl
          | some ub => have := h1 T ub e; rw [nT] at this; cases this
        refine kk _ s4 ⟨_, fun b ub e => ?_, fun b ub e => ?_, I4, ⟨by rw [upd_ne nTS]; exact fS.1, fS.2⟩, ⟨by rw [upd_ne nTI]; exact fI.1, fI.2⟩⟩ ?_ (stay _ _ fS.1 (nst _ fS) hS) ?_ ?_
        · have := h1 b ub e
          rw [upd_ne (fun w => by subst w; rw [nT] at this; cases this)]
          exact this
        · by_cases hb : b = T
          · subst hb
            rw [upd_same] at e
            cases e
            exact .inr ⟨_, _, rfl⟩
          · rw [upd_ne hb] at e
            exact h2 b ub e
        · obtain ⟨s31, s32⟩ := st3
          refine ⟨s31.at fun oo e => stay _ _ fI.1 (nst _ fI) e, ?_⟩
          have hl4 : (upd H' T (.tup [.int (if n < 0 then -n else n), .bl (decide (n < 0))])) l = some (.ext fun h => h.get? l = some o) := by
            have := h1 l _ upd_same
            rw [upd_ne (fun w => by subst w; rw [nT] at this; cases this)]
            exact this
          obtain ⟨hl5, _⟩ := I4.hok l _ hl4
          exact PlainL.isList ⟨o, n0, hl5, hc, hd, hdat⟩
        · obtain ⟨its', r', p', _⟩ := I4.tuple (SqT.of (upd_same (H := H') (a := T)))
          obtain ⟨w1, w2, rfl, ⟨t, rfl⟩, e2⟩ := vals2 r'
          obtain rfl : w2 = .bool _ := e2
          exact ⟨T, t, rfl, ⟨nTS.symm, nTI.symm, n0T, nTs⟩, by rw [← hn]; exact p'⟩
        · rintro j k' ⟨T', t', rfl, ⟨m1, m2, m3, m4⟩, p'⟩
          cases e : H' T' with
          | none =>
            obtain ⟨o', e', z⟩ := p'
            exact ⟨T', t', rfl, ⟨m1, m2, m3, m4⟩, o', stay _ _ e m4 e', z⟩
          | some ub =>
            rcases h2 T' ub e with w | ⟨xa, xb, rfl⟩
            · rw [m3] at w; cases w
            · obtain ⟨its', r', q', _⟩ := I'.tuple (SqT.of e)
              obtain ⟨w1, w2, rfl, ⟨t1, rfl⟩, e2⟩ := vals2 r'
              obtain rfl : w2 = .bool _ := e2
              obtain ⟨its2, r2', q2, _⟩ := I4.tuple (SqT.of (un.tups _ _ e))
              obtain ⟨w3, w4, rfl, ⟨t2, rfl⟩, e4⟩ := vals2 r2'
              obtain rfl : w4 = .bool _ := e4
              obtain ⟨o1, g1, c1, d1, k1⟩ := q'
              obtain ⟨o3, g3, c3, d3, k3⟩ := p'
              have e3 : o1 = o3 := Option.some.inj (g1.symm.trans g3)
              subst e3
              have k2 := k1.symm.trans k3
              simp only [Data.seq.injEq, Array.mk.injEq, List.cons.injEq, and_true, Value.int.injEq, Value.bool.injEq] at k2
              obtain ⟨⟨⟨z1, _⟩, z2⟩, _⟩ := k2
              exact ⟨T', t2, rfl, ⟨m1, m2, m3, m4⟩, by rw [← z1, ← z2]; exact q2⟩
    · rintro i j ki kj s3 Q3 E3 ⟨H', h1, h2, I', fS, fI⟩ ⟨T, t, rfl, hT, pT⟩ ⟨T', t', rfl, hT', pT'⟩ hq
      have rd : ∀ (T : Addr) (t : Tok) (n : Int), IsTup s3.heap T #[.int (if n < 0 then -n else n) t, .bool (decide (n < 0))] → ∃ as, Reads s3.heap (.ref T) (.tuple [.int (if n < 0 then -n else n), .bool (decide (n < 0))]) as := fun T t n p => by
        obtain ⟨o', e', c', m', d'⟩ := p
        exact ⟨_, .tuple e' c' d' (.cons (.int _ _) (.cons (.bool _) .nil))⟩
      obtain ⟨as, ra⟩ := rd T t _ pT
      obtain ⟨bs, rb⟩ := rd T' t' _ pT'
      have hu := (hr.mono (by omega : 1 ≤ k + 3)).in1.units
      have key := PySem.W.rcLt_alike _ _ X.A.in1 s3 (.ref T) (.ref T') as bs ra rb rfl (fun e => by cases e) (by
        have a1 : ∀ (i : Int) (b : Bool), (PyData.tuple [.int i, .bool b]).depth = 1 := fun _ _ => rfl
        rw [a1, a1]; omega)
      rw [dist_lt] at key
      exact key _ _ _ _ hq
  · refine ⟨_, fun _ _ e => e, fun _ _ e => .inl e, I2, I2.fpOk (Nat.le_refl _) (I2.hok.fresh (Nat.le_refl _)), ?_⟩
    have f1 := I1.fpOk (b := s.heap.objs.size) (Nat.le_refl _) (I1.hok.fresh (Nat.le_refl _))
    exact f1
  · rintro hn s' ⟨H', h1, h2, I', _⟩
    have : ns = [] := List.eq_nil_of_length_eq_zero (by rw [← lit]; simpa using hn)
    exact ⟨.non, H', I', rfl, q0 this H' fun b u hb e => h1 b u (by rw [upd_ne hb]; exact e)⟩
  · rintro hn v s' hv ⟨H', h1, h2, I', _⟩
    have hn' : 0 < ns.length := by rw [← lit]; simpa using hn
    obtain ⟨b1, b2⟩ := argBest_lt (fun i => distC (ns.getD i 0)) (its.toArray.size - 1)
    have szn : its.toArray.size = ns.length := by rw [List.size_toArray, lit]
    generalize argBest (fun i j => decide (distC (ns.getD i 0) < distC (ns.getD j 0))) (its.toArray.size - 1) = m at b1 b2 hv
    have ml : m < ns.length := by omega
    have hm : ns[m]? = some (ns.getD m 0) := by rw [List.getElem?_eq_getElem ml, List.getD_eq_getElem?_getD, List.getElem?_eq_getElem ml]; rfl
    have hv' : its[m]? = some v := by simpa using hv
    obtain ⟨u, hu, ru⟩ := rv.get (i := m) (x := V.int (ns.getD m 0)) (by rw [List.getElem?_map, hm]; rfl)
    rw [hv'] at hu
    cases hu
    refine ⟨.int (ns.getD m 0), H', I', ru, q1 _ (List.mem_of_getElem? hm) (fun x hx => ?_) H' fun b u hb e => h1 b u (by rw [upd_ne hb]; exact e)⟩
    obtain ⟨j, hj, rfl⟩ := List.getElem_of_mem hx
    have := b2 j (by omega)
    rwa [show ns.getD j 0 = ns[j] by rw [List.getD_eq_getElem?_getD, List.getElem?_eq_getElem hj]; rfl] at this
theorem cr_minKK {X : Cx} {P : Program} {w : World} {K : PySem.W.Frag} {mg : Str → Option Value} {base : Heap} {f : Addr} {k : Nat} (h : X.K = K) (e1 : X.prog = P) (e2 : X.w = w) (e4 : X.mg = mg) (e5 : X.base = base) (F : FnR P w K mg base CX0 k f (spDist K)) (hr : Room (k + 3) X.A) (hcalm : X.calm = true) :
    CallRK X (.builtin "min") [Str.ofString "key", Str.ofString "default"] (rMinK K f) := by
  subst h e1 e2 e4 e5
  exact cr_minK F hr hcalm
theorem rawD {P : Program} {w : World} {K : PySem.W.Frag} {mg : Str → Option Value} {base : Heap} {CX : CXT} {k : Nat} {nm : Str} {st : Stmt} {f : Addr} {fd : FuncData} {ps : List Str} {sp : Sp}
    (D : Def K mg nm st f fd ps) (G : FnOk P w K mg base CX k f fd ps sp) : FnR P w K mg base CX k f sp := by
  have h := G.raw D.bd .nil
  simp only [List.append_nil] at h
  exact h
end Gx

set_option Elab.async false
set_option linter.all false
/-! Stretches: the number nearest to zero, and how many numbers. -/
namespace Gx.Spn
def pos : Option Int → Bool
  | none => false
  | some l => decide (l > 0)
def neg : Option Int → Bool
  | none => false
  | some h => decide (h < 0)
def near (p : Sx) : Int := if pos p.1 = true then p.1.getD 0 else if neg p.2 = true then p.2.getD 0 else 0
theorem near_has {p : Sx} (h : Spn.ok p) : has p (near p) ∧ ∀ x, has p x → (near p).natAbs ≤ x.natAbs := by
  obtain ⟨lo, hi⟩ := p
  unfold Spn.ok at h
  unfold near has
  cases lo with
  | none =>
    cases hi with
    | none => simp [pos, neg]
    | some u =>
      by_cases hu : u < 0
      · simp [pos, neg, hu]; intro x hx; omega
      · simp [pos, neg, hu]; omega
  | some l =>
    by_cases hl : l > 0
    · simp [pos, hl]
      constructor
      · intro u e; exact h l u rfl e
      · intro x hx _; omega
    · cases hi with
      | none => simp [pos, neg, hl]; omega
      | some u =>
        by_cases hu : u < 0
        · simp [pos, neg, hl, hu]
          have := h l u rfl rfl
          exact ⟨this, fun x _ _ => by omega⟩
        · simp [pos, neg, hl, hu]; omega
theorem dist_abs {n m : Int} (h : distC n ≤ distC m) : n.natAbs ≤ m.natAbs := by
  unfold distC at h
  split at h <;> split at h <;> omega
/-- the least by it: in the spans, and none is nearer to zero -/
theorem least_has {s : List Sx} (h : ∀ p ∈ s, Spn.ok p) {n : Int} (hn : n ∈ s.map near) (hm : ∀ m ∈ s.map near, distC n ≤ distC m) : hasL s n ∧ ∀ x, hasL s x → n.natAbs ≤ x.natAbs := by
  obtain ⟨p, hp, rfl⟩ := List.mem_map.mp hn
  refine ⟨⟨p, hp, (near_has (h p hp)).1⟩, fun x ⟨q, hq, hx⟩ => ?_⟩
  exact Nat.le_trans (dist_abs (hm _ (List.mem_map.mpr ⟨q, hq, rfl⟩))) ((near_has (h q hq)).2 x hx)
/-- bounded on both sides -/
def fin (s : List Sx) : Bool := s.all fun p => p.1.isSome && p.2.isSome
def cnt1 (p : Sx) : Int := p.2.getD 0 - p.1.getD 0 + 1
def cnt (s : List Sx) : Int := (s.map cnt1).sum
def win (f : Int → Bool) (lo : Int) : Nat → Int
  | 0 => 0
  | n + 1 => win f lo n + if f (lo + n) then 1 else 0
theorem win_one (l h lo : Int) : ∀ n : Nat, win (fun x => decide (l ≤ x) && decide (x ≤ h)) lo n = max 0 (min (h + 1) (lo + n) - max l lo)
  | 0 => by unfold win; omega
  | n + 1 => by
    have ih := win_one l h lo n
    unfold win
    rw [ih]
    by_cases h1 : l ≤ lo + n <;> by_cases h2 : lo + n ≤ h <;> simp [h1, h2] <;> omega
theorem win_or (f g : Int → Bool) (lo : Int) : ∀ n : Nat, win (fun x => f x || g x) lo n + win (fun x => f x && g x) lo n = win f lo n + win g lo n
  | 0 => by unfold win; rfl
  | n + 1 => by
    have ih := win_or f g lo n
    unfold win
    cases f (lo + n) <;> cases g (lo + n) <;> simp <;> omega
theorem win_congr {f g : Int → Bool} (lo : Int) (h : ∀ x, f x = g x) (n : Nat) : win f lo n = win g lo n := by rw [show f = g from funext h]
theorem win_none (lo : Int) : ∀ n : Nat, win (fun _ => false) lo n = 0
  | 0 => rfl
  | n + 1 => by unfold win; rw [win_none lo n]; rfl
def inW (lo : Int) (n : Nat) (p : Sx) : Prop := (∀ l, p.1 = some l → lo ≤ l) ∧ ∀ h, p.2 = some h → h < lo + n
theorem cnt_win {lo : Int} {n : Nat} : ∀ {s : List Sx}, Canon s → fin s = true → (∀ p ∈ s, inW lo n p) → cnt s = win (lies s) lo n
  | [], _, _, _ => by
    rw [win_congr lo (g := fun _ => false) (fun x => by unfold lies; rfl), win_none]
    rfl
  | p :: s, c, hf, hw => by
    unfold fin at hf
    rw [List.all_cons, Bool.and_eq_true] at hf
    obtain ⟨hp, hs⟩ := hf
    have ih := cnt_win c.tail hs fun q hq => hw q (List.mem_cons_of_mem _ hq)
    obtain ⟨lo1, hi1⟩ := p
    cases lo1 with
    | none => simp at hp
    | some l =>
      cases hi1 with
      | none => simp at hp
      | some u =>
        have w1 := (hw _ (List.mem_cons_self ..)).1 l rfl
        have w2 := (hw _ (List.mem_cons_self ..)).2 u rfl
        have okp := c.ok _ (List.mem_cons_self ..) l u rfl rfl
        have key := win_or (fun x => decide (l ≤ x) && decide (x ≤ u)) (lies s) lo n
        rw [win_congr lo (f := fun x => (decide (l ≤ x) && decide (x ≤ u)) && lies s x) (g := fun _ => false) (fun x => ?_), win_none, win_one, ← ih] at key
        · rw [win_congr lo (f := lies ((some l, some u) :: s)) (g := fun x => decide (l ≤ x) && decide (x ≤ u) || lies s x) (fun x => by unfold lies; rw [List.any_cons]; rfl)]
          unfold cnt at *
          rw [List.map_cons, List.sum_cons]
          have : cnt1 (some l, some u) = u - l + 1 := rfl
          rw [this]
          omega
        · rw [Bool.and_eq_false_iff]
          by_cases hx : (decide (l ≤ x) && decide (x ≤ u)) = true
          · refine .inr ?_
            rw [lies_false]
            rintro ⟨q, hq, hqx⟩
            have sp := (List.pairwise_cons.mp c.sep).1 q hq
            rw [Bool.and_eq_true, decide_eq_true_iff, decide_eq_true_iff] at hx
            have := Sep.gt (x := x) (y := x) sp ⟨fun a e => by cases e; exact hx.1, fun a e => by cases e; exact hx.2⟩ hqx
            omega
          · exact .inl (by simpa using hx)
theorem window : ∀ s : List Sx, ∃ (lo : Int) (n : Nat), ∀ p ∈ s, inW lo n p
  | [] => ⟨0, 0, by simp⟩
  | p :: s => by
    obtain ⟨lo, n, h⟩ := window s
    refine ⟨min lo (p.1.getD 0), ((max (lo + n) (p.2.getD 0 + 1)) - min lo (p.1.getD 0)).toNat, fun q hq => ?_⟩
    rcases List.mem_cons.mp hq with e | hq
    · subst e
      refine ⟨fun l e => ?_, fun u e => ?_⟩ <;> rw [e] <;> simp only [Option.getD_some] <;> omega
    · have := h q hq
      refine ⟨fun l e => ?_, fun u e => ?_⟩
      · have := this.1 l e; omega
      · have := this.2 u e; omega
theorem fin_iff {s : List Sx} (ho : ∀ p ∈ s, Spn.ok p) : fin s = true ↔ ∃ B : Int, ∀ x, hasL s x → -B ≤ x ∧ x ≤ B := by
  constructor
  · intro h
    obtain ⟨lo, n, hw⟩ := window s
    refine ⟨lo.natAbs + n, fun x ⟨p, hp, hx⟩ => ?_⟩
    have hf := List.all_eq_true.mp h p hp
    obtain ⟨lo1, hi1⟩ := p
    cases lo1 with
    | none => simp at hf
    | some l =>
      cases hi1 with
      | none => simp at hf
      | some u =>
        have w1 := (hw _ hp).1 l rfl
        have w2 := (hw _ hp).2 u rfl
        have := hx.1 l rfl
        have := hx.2 u rfl
        omega
  · rintro ⟨B, hB⟩
    unfold fin
    rw [List.all_eq_true]
    intro p hp
    obtain ⟨x, hx⟩ := ok_has (ho p hp)
    have hxB := hB x ⟨p, hp, hx⟩
    obtain ⟨lo1, hi1⟩ := p
    cases lo1 with
    | none =>
      have := hB (min x (-B - 1)) ⟨_, hp, ⟨fun l e => (by cases e), fun u e => (by have := hx.2 u e; omega)⟩⟩
      omega
    | some l =>
      cases hi1 with
      | none =>
        have := hB (max x (B + 1)) ⟨_, hp, ⟨fun l e => (by have := hx.1 l e; omega), fun u e => (by cases e)⟩⟩
        omega
      | some u => rfl
theorem fin_or {s t u : List Sx} (cs : Canon s) (ct : Canon t) (cu : Canon u) (h : ∀ i, hasL u i ↔ hasL s i ∨ hasL t i) : fin u = (fin s && fin t) := by
  rw [Bool.eq_iff_iff, Bool.and_eq_true, fin_iff cu.ok, fin_iff cs.ok, fin_iff ct.ok]
  constructor
  · rintro ⟨B, hB⟩
    exact ⟨⟨B, fun x hx => hB x ((h x).mpr (.inl hx))⟩, B, fun x hx => hB x ((h x).mpr (.inr hx))⟩
  · rintro ⟨⟨B, hB⟩, C, hC⟩
    refine ⟨max B C, fun x hx => ?_⟩
    rcases (h x).mp hx with g | g
    · have := hB x g; omega
    · have := hC x g; omega
theorem fin_and {s t u : List Sx} (cs : Canon s) (cu : Canon u) (h : ∀ i, hasL u i ↔ hasL s i ∧ hasL t i) (hs : fin s = true) : fin u = true := by
  rw [fin_iff cu.ok]
  obtain ⟨B, hB⟩ := (fin_iff cs.ok).mp hs
  exact ⟨B, fun x hx => hB x ((h x).mp hx).1⟩
theorem counts {s t u v : List Sx} (cs : Canon s) (ct : Canon t) (cu : Canon u) (cv : Canon v) (hs : fin s = true) (ht : fin t = true)
    (hu : ∀ i, hasL u i ↔ hasL s i ∨ hasL t i) (hv : ∀ i, hasL v i ↔ hasL s i ∧ hasL t i) : cnt u + cnt v = cnt s + cnt t := by
  have fu : fin u = true := by rw [fin_or cs ct cu hu, hs, ht]; rfl
  have fv := fin_and cs cv hv hs
  obtain ⟨lo, n, hw⟩ := window (s ++ t ++ u ++ v)
  rw [cnt_win cs hs fun p hp => hw p (by simp [hp]), cnt_win ct ht fun p hp => hw p (by simp [hp]), cnt_win cu fu fun p hp => hw p (by simp [hp]), cnt_win cv fv fun p hp => hw p (by simp [hp]), ← win_or (lies s) (lies t)]
  congr 1
  · exact win_congr lo (fun x => by rw [Bool.eq_iff_iff, Bool.or_eq_true, lies_iff, lies_iff, lies_iff]; exact hu x) n
  · exact win_congr lo (fun x => by rw [Bool.eq_iff_iff, Bool.and_eq_true, lies_iff, lies_iff, lies_iff]; exact hv x) n
/-- only the first has no low end, only the last no high one -/
theorem canon_fin {s : List Sx} (c : Canon s) {a b : Int} (ha : ∀ p, s.head? = some p → p.1 = some a) (hb : ∀ p, s.getLast? = some p → p.2 = some b) : fin s = true := by
  unfold fin
  rw [List.all_eq_true]
  intro p hp
  obtain ⟨i, hi⟩ := List.getElem?_of_mem hp
  have il := (List.getElem?_eq_some_iff.mp hi).1
  rw [Bool.and_eq_true]
  constructor
  · cases i with
    | zero =>
      rw [ha p (by rw [List.head?_eq_getElem?]; exact hi)]; rfl
    | succ i =>
      obtain ⟨q, hq⟩ : ∃ q, s[i]? = some q := ⟨_, List.getElem?_eq_getElem (by omega)⟩
      obtain ⟨_, l, _, e, _⟩ := canon_next c hq hi
      rw [e]; rfl
  · by_cases hl : i + 1 < s.length
    · obtain ⟨q, hq⟩ : ∃ q, s[i + 1]? = some q := ⟨_, List.getElem?_eq_getElem hl⟩
      obtain ⟨u, _, e, _⟩ := canon_next c hi hq
      rw [e]; rfl
    · have : i = s.length - 1 := by omega
      subst this
      rw [hb p (by rw [List.getLast?_eq_getElem?]; exact hi)]; rfl
end Gx.Spn

set_option Elab.async false
set_option linter.all false
/-! Stretches: the one number that is nearest to zero. -/
namespace Gx.Spn
theorem near_dist {p : Sx} (h : Spn.ok p) : ∀ x, has p x → distC (near p) ≤ distC x := by
  obtain ⟨lo, hi⟩ := p
  unfold Spn.ok at h
  unfold near has distC
  cases lo with
  | none =>
    cases hi with
    | none => simp [pos, neg]; intro x; split <;> omega
    | some u =>
      by_cases hu : u < 0
      · simp [pos, neg, hu]; intro x hx; split <;> omega
      · simp [pos, neg, hu]; intro x hx; split <;> omega
  | some l =>
    by_cases hl : l > 0
    · simp [pos, hl]
      intro x hx _
      split <;> split <;> omega
    · cases hi with
      | none => simp [pos, neg, hl]; intro x hx; split <;> omega
      | some u =>
        by_cases hu : u < 0
        · simp [pos, neg, hl, hu]
          have := h l u rfl rfl
          intro x _ _
          split <;> omega
        · simp [pos, neg, hl, hu]; intro x _ _; split <;> omega
theorem least_hasD {s : List Sx} (h : ∀ p ∈ s, Spn.ok p) {n : Int} (hn : n ∈ s.map near) (hm : ∀ m ∈ s.map near, distC n ≤ distC m) : hasL s n ∧ ∀ x, hasL s x → distC n ≤ distC x := by
  obtain ⟨p, hp, rfl⟩ := List.mem_map.mp hn
  refine ⟨⟨p, hp, (near_has (h p hp)).1⟩, fun x ⟨q, hq, hx⟩ => ?_⟩
  have h1 := hm _ (List.mem_map.mpr ⟨q, hq, rfl⟩)
  have h2 := near_dist (h q hq) x hx
  omega
theorem distC_inj {a b : Int} (h : distC a = distC b) : a = b := by
  unfold distC at h
  split at h <;> split at h <;> omega
/-- nearest among what is looked at: the ends and 0 -/
def cand (s : List Sx) : List Int := (if lies s 0 = true then [0] else []) ++ s.flatMap fun p => p.1.toList ++ p.2.toList
theorem cand_has {s : List Sx} (h : ∀ p ∈ s, Spn.ok p) : ∀ n ∈ cand s, hasL s n := by
  intro n hn
  unfold cand at hn
  rcases List.mem_append.mp hn with hn | hn
  · split at hn
    · rename_i z
      rw [List.mem_singleton] at hn
      subst hn
      exact lies_iff.mp z
    · cases hn
  · obtain ⟨p, hp, hn⟩ := List.mem_flatMap.mp hn
    have ok := h p hp
    refine ⟨p, hp, ?_⟩
    obtain ⟨lo, hi⟩ := p
    unfold Spn.ok at ok
    unfold has
    cases lo <;> cases hi <;> simp at hn ⊢ <;> simp at ok <;> omega
/-- the nearest of a stretch is looked at -/
theorem near_cand {s : List Sx} {p : Sx} (hp : p ∈ s) (ok : Spn.ok p) : near p ∈ cand s := by
  unfold cand
  obtain ⟨lo, hi⟩ := p
  by_cases h0 : near (lo, hi) = 0
  · have hl : lies s 0 = true := lies_iff.mpr ⟨_, hp, by have := (near_has ok).1; rw [h0] at this; exact this⟩
    rw [h0, if_pos hl]
    exact List.mem_append_left _ (List.mem_singleton.mpr rfl)
  · refine List.mem_append_right _ (List.mem_flatMap.mpr ⟨_, hp, ?_⟩)
    unfold near at h0 ⊢
    cases lo <;> cases hi <;> simp [pos, neg] at h0 ⊢ <;> (try split at h0) <;> (try split) <;> (try split) <;> (try simp_all) <;> (try omega)
/-- least of the candidates, least of all -/
theorem cand_least {s : List Sx} (h : ∀ p ∈ s, Spn.ok p) {n : Int} (hn : n ∈ cand s) (hm : ∀ m ∈ cand s, distC n ≤ distC m) : hasL s n ∧ ∀ x, hasL s x → distC n ≤ distC x := by
  refine ⟨cand_has h n hn, fun x ⟨q, hq, hx⟩ => ?_⟩
  have h1 := hm _ (near_cand hq (h q hq))
  have h2 := near_dist (h q hq) x hx
  omega
theorem cand_nil {s : List Sx} (hs : s ≠ []) (h : ∀ p ∈ s, Spn.ok p) : cand s ≠ [] := by
  obtain ⟨p, r, rfl⟩ := List.exists_cons_of_ne_nil hs
  intro e
  have := near_cand (s := p :: r) List.mem_cons_self (h p List.mem_cons_self)
  rw [e] at this
  cases this
/-- the one nearest number -/
def leastO (s : List Sx) : Option Int → Prop
  | none => s = []
  | some i => hasL s i ∧ ∀ x, hasL s x → distC i ≤ distC x
theorem leastO_one {s : List Sx} {a b : Option Int} (ha : leastO s a) (hb : leastO s b) : a = b := by
  cases a with
  | none =>
    cases b with
    | none => rfl
    | some j => subst ha; exact absurd hb.1 (hasL_nil j)
  | some i =>
    cases b with
    | none => subst hb; exact absurd ha.1 (hasL_nil i)
    | some j =>
      have h1 := ha.2 j hb.1
      have h2 := hb.2 i ha.1
      rw [distC_inj (Int.le_antisymm h1 h2)]
end Gx.Spn

set_option Elab.async false
set_option linter.all false
set_option maxRecDepth 100000
set_option maxHeartbeats 4000000
namespace K12
open PySem PySem.Spec PyProof.Rows L2 Evl Gx RZ
abbrev s_nearest : Stmt := topS 17
theorem sc_nearest : FnScope ["pair", "low", "high"] ["pair"] (defScope s_nearest) := ⟨rfl, rfl, rfl, by decide +kernel, rfl, by decide +kernel, by decide +kernel⟩
abbrev s_distance : Stmt := topS 18
theorem sc_distance : FnScope ["number"] ["number"] (defScope s_distance) := ⟨rfl, rfl, rfl, by decide +kernel, rfl, by decide +kernel, by decide +kernel⟩
abbrev s_Spans_least : Stmt := inClass (topS 19) 2
theorem sc_Spans_least : FnScope ["self", "pair"] ["self"] (defScope s_Spans_least) := ⟨rfl, rfl, rfl, by decide +kernel, rfl, by decide +kernel, by decide +kernel⟩
abbrev s_Spans_many : Stmt := inClass (topS 19) 3
theorem sc_Spans_many : FnScope ["self", "stretches", "low", "high"] ["self"] (defScope s_Spans_many) := ⟨rfl, rfl, rfl, by decide +kernel, rfl, by decide +kernel, by decide +kernel⟩
abbrev s_Spans_within : Stmt := inClass (topS 19) 5
theorem sc_Spans_within : FnScope ["self", "low", "high"] ["self", "low", "high"] (defScope s_Spans_within) := ⟨rfl, rfl, rfl, by decide +kernel, rfl, by decide +kernel, by decide +kernel⟩
theorem fm_map (f : Sx → Int) (s : List Sx) : s.filterMap (fun p => some (PyData.int (f p))) = (s.map f).map PyData.int := by
  induction s with
  | nil => rfl
  | cons p s ih => rw [List.filterMap_cons, List.map_cons, List.map_cons]; simp only [ih]
def spNearest (K : PySem.W.Frag) : Sp := fun vs H Q _ => ∃ (t : Addr) (p : Sx), vs = [.ref t] ∧ SqT K H t [vO p.1, vO p.2] ∧ Q (.int (Spn.near p)) H
def spLeast (K : PySem.W.Frag) (C : Addr) : Sp := fun vs H Q _ => ∃ (p : Addr) (s : List Sx) (n : Nat), vs = [.ref p] ∧ SpAt K C H p s n ∧ n ≤ 100000 ∧
  ∀ o H', Spn.leastO s o → Ex H H' → Q (vO o) H'
def manyO (s : List Sx) : Option Int := if Spn.fin s = true then some (Spn.cnt s) else none
def spMany (K : PySem.W.Frag) (C : Addr) : Sp := fun vs H Q _ => ∃ (p : Addr) (s : List Sx) (n : Nat), vs = [.ref p] ∧ SpAt K C H p s n ∧ n ≤ 100000 ∧ ∀ H', Ex H H' → Q (vO (manyO s)) H'
def spWithin (K : PySem.W.Frag) (C : Addr) : Sp := fun vs H Q _ => ∃ (p : Addr) (s : List Sx) (n : Nat) (l u : Int), vs = [.ref p, .int l, .int u] ∧ SpAt K C H p s n ∧ l ≤ u ∧ n + 1 ≤ 100000 ∧
  ∀ x s' H', Ex H H' → SpAt K C H' x s' (n + 1) → (∀ i, Spn.hasL s' i ↔ Spn.hasL s i ∧ l ≤ i ∧ i ≤ u) → Q (.ref x) H'
def spIsWithin (K : PySem.W.Frag) (C : Addr) : Sp := fun vs H Q _ => ∃ (p q : Addr) (s r : List Sx) (n m : Nat), vs = [.ref p, .ref q] ∧ SpAt K C H p s n ∧ SpAt K C H q r m ∧ n + m + 1 ≤ 100000 ∧
  ∀ b H', Ex H H' → (b = true ↔ ∀ i, Spn.hasL s i → Spn.hasL r i) → Q (.bl b) H'
section
variable {P : Program} {w : World} {K : PySem.W.Frag} {mg : Str → Option Value} {base : Heap} {C fI f_nearest f_distance f_met f_made g_or g_and g_sub g_inv g_len g_in g_eq : Addr} {fdI fd_nearest fd_distance fd_met fd_made : FuncData}
theorem ok_nearest {f : Addr} {fd : FuncData} (D : Def K mg "_nearest" s_nearest f fd ["pair"]) (bi : Bi mg) : FnOk P w K mg base CX0 1 f fd ["pair"] (spNearest K) := by
  refine D.fn.ok sc_nearest (fun vs H Q E h => ?_) (fun cdv A outer s0 H vs Q E hr h => ?_)
  · obtain ⟨t, p, rfl, _⟩ := h
    rfl
  · obtain ⟨t, ⟨lo, hi⟩, rfl, hs, k⟩ := h
    refine ⟨_, (pss_cons (ps_asg (pv 0) (pg_tup rfl (pgs_cons (pg_name (i := 1) sc_nearest.nd rfl (Or.inl rfl)) (pgs_cons (pg_name (i := 2) sc_nearest.nd rfl (Or.inl rfl)) pgs_nil))))
  (pss_cons (ps_if (L2.PW.pt (pw_and (pt_cmpR op_notN (pv 1) pe_non (nomark _)) (pw_and1 (pt_cmpR op_gt (pv 1) pe_int (nomark _)))))
    (pss_one (ps_ret (pv 1)))
    pss_nil)
  (pss_cons (ps_if (L2.PW.pt (pw_and (pt_cmpR op_notN (pv 2) pe_non (nomark _)) (pw_and1 (pt_cmpR op_lt (pv 2) pe_int (nomark _)))))
    (pss_one (ps_ret (pv 2)))
    pss_nil)
  (pss_one (ps_ret pe_int))))), ?_⟩
    have k1 : ∀ v, Spn.near (lo, hi) = v → Q (.int v) H := fun v e => e ▸ k
    refine ⟨_, rfl, t, _, rfl, hs, rfl, _, _, rfl, _, _, rfl, rfl, ?_⟩
    cases lo with
    | none =>
      refine ⟨_, rfl, rfl, _, rfl, if_f rfl (if_f rfl ?_)⟩
      cases hi with
      | none => exact ⟨_, rfl, rfl, _, rfl, if_f rfl (if_f rfl (k1 0 rfl))⟩
      | some u =>
        refine ⟨_, rfl, rfl, _, rfl, if_t rfl ⟨_, rfl, u, 0, rfl, rfl, _, rfl, ?_⟩⟩
        exact if_d (fun h => ⟨_, rfl, k1 u (by simp [Spn.near, Spn.pos, Spn.neg, h])⟩) fun h => k1 0 (by simp [Spn.near, Spn.pos, Spn.neg, h])
    | some l =>
      refine ⟨_, rfl, rfl, _, rfl, if_t rfl ⟨_, rfl, l, 0, rfl, rfl, _, rfl, ?_⟩⟩
      refine if_d (fun h => ⟨_, rfl, k1 l (by simp [Spn.near, Spn.pos, h])⟩) fun h => ?_
      cases hi with
      | none => exact ⟨_, rfl, rfl, _, rfl, if_f rfl (if_f rfl (k1 0 (by simp [Spn.near, Spn.pos, Spn.neg, h])))⟩
      | some u =>
        refine ⟨_, rfl, rfl, _, rfl, if_t rfl ⟨_, rfl, u, 0, rfl, rfl, _, rfl, ?_⟩⟩
        exact if_d (fun h' => ⟨_, rfl, k1 u (by simp [Spn.near, Spn.pos, Spn.neg, h, h'])⟩) fun h' => k1 0 (by simp [Spn.near, Spn.pos, Spn.neg, h, h'])
theorem ok_distance {f : Addr} {fd : FuncData} (D : Def K mg "_distance" s_distance f fd ["number"]) (bi : Bi mg) : FnOk P w K mg base CX0 1 f fd ["number"] (spDist K) := by
  refine D.fn.ok sc_distance (fun vs H Q E h => ?_) (fun cdv A outer s0 H vs Q E hr h => ?_)
  · obtain ⟨n, rfl, _⟩ := h
    rfl
  · obtain ⟨n, rfl, k⟩ := h
    refine ⟨_, (pss_one (ps_ret (pe_tup (pa_cons (pe_callB call_abs (by rfl) bi.abs bt_abs (pa_cons (pv 0) pa_nil)) (pa_cons (pe_cmpR op_lt (pv 0) pe_int (nomark _)) pa_nil))))), ?_⟩
    exact ⟨_, rfl, n, rfl, _, rfl, n, 0, rfl, rfl, sz2, fun T nT => k T nT⟩
theorem ok_least {f : Addr} {fd : FuncData} (D : MDef K C "least" "Spans.least" s_Spans_least f fd ["self"]) (bi : Bi mg) (T_Spans : SpansT K mg C fI)
    (D_nearest : Def K mg "_nearest" s_nearest f_nearest fd_nearest ["pair"])
    (G_nearest : FnOk P w K mg base CX0 1 f_nearest fd_nearest ["pair"] (spNearest K))
    (D_distance : Def K mg "_distance" s_distance f_distance fd_distance ["number"])
    (G_distance : FnOk P w K mg base CX0 1 f_distance fd_distance ["number"] (spDist K)) : FnOk P w K mg base CX0 5 f fd ["self"] (spLeast K C) := by
  refine D.fn.ok sc_Spans_least (fun vs H Q E h => ?_) (fun cdv A outer s0 H vs Q E hr h => ?_)
  · obtain ⟨p, s, n, rfl, _⟩ := h
    rfl
  · obtain ⟨p, s, n, rfl, ⟨⟨dx, t, hp, xs, hq, hd⟩, cn, hz⟩, hn, k⟩ := h
    refine ⟨_, (pss_one (ps_ret (pe_callBK (cr_minKK (K := K) rfl rfl rfl rfl rfl (Gx.rawD D_distance G_distance) (hr.mono (by first | decide | omega)) rfl) rfl bi.min bt_min (pa_cons (pe_lc (own := [("pair", 1)]) rfl sc_Spans_least.nd (pi_tup (pe_fld (pv 0) rfl)) (blkOk_by (N := ["self", "pair"]) (sc := defScope s_Spans_least) (by decide +kernel)) (fun _ _ _ _ _ => (pg_name (i := 1) sc_Spans_least.nd rfl (Or.inl rfl))) (fun _ _ _ _ _ => pts_nil) (fun _ _ _ _ _ => (pe_call G_nearest (hr.mono (by first | decide | omega)) rfl D_nearest.mg D_nearest.fn.kp D_nearest.bd .nil pass0 (pa_cons (pv 1) pa_nil)))) pa_nil) (pk_cons (pe_glob (v := .ref f_distance) rfl D_distance.mg rfl) (pk_cons pe_non pk_nil))))), ?_⟩
    refine ⟨_, rfl, p, C, dx, _, _, rfl, hp, T_Spans.cl, T_Spans.ns, sp_look, ?_⟩
    refine ⟨t, rfl, ⟨xs, hq⟩, fun D nD => ?_⟩
    have hl := sts_len hd
    refine lc_dp (t := true) (fun i => (s[i]?).bind fun p => some (.int (Spn.near p))) nD hq (small (by omega)) ?_ ?_
    · rintro i x H1 N M hx e1 hN hM
      obtain ⟨p1, q1, hp1, rfl, hs⟩ := sts_get hd hx
      exact ⟨rfl, _, rfl, q1, p1, rfl, ex_t e1 hs, hN _ _ (.int (Spn.near p1)) (Ex.refl _) (by rw [hp1]; rfl) rfl (.int _)⟩
    · intro H1 ys e1 hy hd1
      rw [hl, outs_bind] at hd1
      rw [fm_map] at hd1
      obtain rfl := dpAll_ints_inv hd1
      have hH : ∀ H', ExB D H1 H' → Ex H H' := fun H' e' => exB_ex e' e1 nD
      refine ⟨D, s.map Spn.near, rfl, rfl, hy, fun h0 H' e' => k none H' (List.map_eq_nil_iff.mp h0) (hH H' e'), fun n hn hm H' e' => ?_⟩
      obtain ⟨h1, h2⟩ := Spn.least_hasD cn.ok hn hm
      exact k (some n) H' ⟨h1, h2⟩ (hH H' e')
theorem ok_many {f : Addr} {fd : FuncData} (D : MDef K C "many" "Spans.many" s_Spans_many f fd ["self"]) (bi : Bi mg) (T_Spans : SpansT K mg C fI) : FnOk P w K mg base CX0 1 f fd ["self"] (spMany K C) := by
  refine D.fn.ok sc_Spans_many (fun vs H Q E h => ?_) (fun cdv A outer s0 H vs Q E hr h => ?_)
  · obtain ⟨p, s, n, rfl, _⟩ := h
    rfl
  · obtain ⟨p, s, n, rfl, ⟨⟨dx, t, hp, xs, hq, hd⟩, cn, hz⟩, hn, k⟩ := h
    have hl := sts_len hd
    refine ⟨_, (pss_cons (ps_set (i := 1) sc_Spans_many.nd rfl (Or.inl rfl) (pe_fld (pv 0) rfl))
  (pss_cons (ps_if (L2.PW.pt (pw_and (pt_cmpR op_gt (pe_callB call_len_seq (by rfl) bi.len bt_len (pa_cons (pv 1) pa_nil)) pe_int (nomark _)) (pw_and1 (L2.PW.pt (pw_or (pt_cmpR op_isN (pe_ix (ix_tupK (K := K) rfl) (pe_ix (ix_tupK (K := K) rfl) (pv 1) pe_int (fun _ _ => rfl)) pe_int (fun _ _ => rfl)) pe_non (nomark _)) (pw_or1 (pt_cmpR op_isN (pe_ix (ix_tupK (K := K) rfl) (pe_ix (ix_tupK (K := K) rfl) (pv 1) (pe_un un_neg pe_int) (fun _ _ => rfl)) pe_int (fun _ _ => rfl)) pe_non (nomark _))))))))
    (pss_one (ps_ret pe_non))
    pss_nil)
  (pss_one (ps_ret (pe_callB (cr_sum rfl) (by rfl) bi.sum bt_sum (pa_cons (pe_lc (own := [("low", 2), ("high", 3)]) (g := gTup K 2 (gCons (gName 2) (gCons (gName 3) gNil))) rfl sc_Spans_many.nd (pi_tup (pv 1)) (blkOk_by (N := ["self", "stretches", "low", "high"]) (sc := defScope s_Spans_many) (by decide +kernel)) (fun _ _ _ _ _ => (pg_tup rfl (pgs_cons (pg_name (i := 2) sc_Spans_many.nd rfl (Or.inl rfl)) (pgs_cons (pg_name (i := 3) sc_Spans_many.nd rfl (Or.inl rfl)) pgs_nil)))) (fun _ _ _ _ _ => pts_nil) (fun _ _ _ _ _ => (pe_op op_add (pe_op op_sub (pv 3) (pv 2)) pe_int))) pa_nil)))))), ?_⟩
    refine ⟨_, rfl, p, C, dx, _, _, rfl, hp, T_Spans.cl, T_Spans.ns, sp_look, ?_⟩
    have all : (Spn.fin s = true) → tRet (tCB (rSum K) (tCons (tLc (iTup K (tVar 1)) (gTup K 2 (gCons (gName 2) (gCons (gName 3) gNil))) tYes (tOp (rI0 fun i j => V.int (i + j)) (tOp (rI0 fun i j => V.int (i - j)) (tVar 3) (tVar 2)) (tC (V.int 1))) [2, 3]) tNil)) { nx := fun x H' => Q V.non H', rt := Q } [some (.ref p), some (.ref t), none, none] H := fun hf => by
      refine ⟨_, rfl, t, rfl, ⟨xs, hq⟩, fun D nD => ?_⟩
      refine lc_dp (t := true) (fun i => (s[i]?).bind fun p => some (.int (Spn.cnt1 p))) nD hq (small (by omega)) ?_ ?_
      · rintro i x H1 N M hx e1 hN hM
        obtain ⟨⟨lo, hi⟩, q1, hp1, rfl, hs⟩ := sts_get hd hx
        have hf1 := List.all_eq_true.mp hf _ (List.mem_of_getElem? hp1)
        cases lo with
        | none => simp at hf1
        | some l =>
          cases hi with
          | none => simp at hf1
          | some u =>
            exact ⟨q1, _, rfl, ex_t e1 hs, rfl, _, _, rfl, _, _, rfl, rfl, rfl, _, rfl, _, rfl, u, l, rfl, rfl, u - l, 1, rfl, rfl, hN _ _ (.int (u - l + 1)) (Ex.refl _) (by rw [hp1]; rfl) rfl (.int _)⟩
      · intro H1 ys e1 hy hd1
        rw [hl, outs_bind, fm_map] at hd1
        obtain rfl := dpAll_ints_inv hd1
        refine ⟨D, s.map Spn.cnt1, rfl, SqL.of hy, ?_⟩
        have := k H1 e1
        unfold manyO at this
        rw [if_pos hf] at this
        exact this
    refine ⟨_, rfl, t, xs, rfl, .inr hq, xs.length, 0, rfl, rfl, _, rfl, ?_⟩
    by_cases h0 : s = []
    · subst h0
      have : xs = [] := by cases xs with | nil => rfl | cons _ _ => simp at hl
      subst this
      exact if_f rfl (if_f rfl (all rfl))
    · obtain ⟨p0, r, rfl⟩ : ∃ p r, s = p :: r := by cases s with | nil => exact absurd rfl h0 | cons p r => exact ⟨p, r, rfl⟩
      obtain ⟨pl, hpl⟩ : ∃ pl, (p0 :: r).getLast? = some pl := ⟨_, List.getLast?_eq_some_getLast (List.cons_ne_nil _ _)⟩
      have hlast : (p0 :: r)[(p0 :: r).length - 1]? = some pl := by rw [← List.getLast?_eq_getElem?]; exact hpl
      obtain ⟨q0, x0, s0'⟩ := sts_get' hd (i := 0) (p := p0) rfl
      obtain ⟨ql, xl, sl⟩ := sts_get' hd hlast
      have a0 : atI xs 0 = some (.ref q0) := atI_of (by decide) x0
      have al : atI xs (-1) = some (.ref ql) := atI_back (by rw [hl]; exact xl)
      have none_ : Spn.fin (p0 :: r) = false → Q V.non H := fun hf => by
        have := k H (Ex.refl _)
        unfold manyO at this
        rw [hf] at this
        exact this
      refine if_t (decide_eq_true (by rw [hl]; simp)) ?_
      refine ⟨_, rfl, t, xs, 0, _, rfl, rfl, hq, a0, q0, _, 0, _, rfl, rfl, s0', rfl, rfl, _, rfl, ?_⟩
      obtain ⟨lo, hi⟩ := p0
      cases lo with
      | none =>
        refine if_t rfl ?_
        exact none_ (by unfold Spn.fin; rfl)
      | some a =>
        refine if_f rfl ⟨_, rfl, 1, rfl, t, xs, -1, _, rfl, rfl, hq, al, ql, _, 1, _, rfl, rfl, sl, rfl, rfl, _, rfl, ?_⟩
        obtain ⟨lo2, hi2⟩ := pl
        cases hi2 with
        | none =>
          refine if_t rfl ?_
          refine none_ ?_
          have := List.mem_of_getElem? hlast
          unfold Spn.fin
          rw [List.all_eq_false]
          exact ⟨_, this, by simp⟩
        | some b => exact if_f rfl ((all (Spn.canon_fin cn (a := a) (b := b) (fun p e => by cases e; rfl) fun p e => by rw [hpl] at e; cases e; rfl)))
theorem ok_within {f : Addr} {fd : FuncData} (D : MDef K C "within" "Spans.within" s_Spans_within f fd ["self", "low", "high"]) (bi : Bi mg) (T_Spans : SpansT K mg C fI)
    (D_met : Def K mg "_met" s_met f_met fd_met ["ones", "others"])
    (G_met : FnOk P w K mg base CX0 2 f_met fd_met ["ones", "others"] (spMet K))
    (D_made : Def K mg "_made" s_made f_made fd_made ["stretches"])
    (G_made : FnOk P w K mg base CX0 8 f_made fd_made ["stretches"] (spMade K C)) : FnOk P w K mg base CX0 9 f fd ["self", "low", "high"] (spWithin K C) := by
  refine D.fn.ok sc_Spans_within (fun vs H Q E h => ?_) (fun cdv A outer s0 H vs Q E hr h => ?_)
  · obtain ⟨p, s, n, l, u, rfl, _⟩ := h
    rfl
  · obtain ⟨p, s, n, l, u, rfl, ⟨⟨dx, t, hp, ht⟩, cn, hz⟩, hlu, hn, k⟩ := h
    refine ⟨_, (pss_one (ps_ret (pe_call G_made (hr.mono (by first | decide | omega)) rfl D_made.mg D_made.fn.kp D_made.bd .nil pass0 (pa_cons (pe_call G_met (hr.mono (by first | decide | omega)) rfl D_met.mg D_met.fn.kp D_met.bd .nil pass0 (pa_cons (pe_fld (pv 0) rfl) (pa_cons (pe_lst (pa_cons (pe_tup (pa_cons (pv 1) (pa_cons (pv 2) pa_nil))) pa_nil)) pa_nil))) pa_nil)))), ?_⟩
    refine ⟨_, rfl, p, C, dx, _, _, rfl, hp, T_Spans.cl, T_Spans.ns, sp_look, ?_⟩
    refine ⟨_, rfl, _, rfl, sz2, fun T nT => ⟨sz1, fun L nL => ?_⟩⟩
    have e1 : Ex H (upd H T (.tup [.int l, .int u])) := Ex.new nT
    have hT : upd H T (.tup [.int l, .int u]) T = some (.tup [.int l, .int u]) := upd_same
    generalize upd H T (.tup [.int l, .int u]) = H1 at e1 hT nL ⊢
    have e2 : Ex H (upd H1 L (.lst [.ref T])) := e1.trans (Ex.new nL)
    have ha : StsB false K (upd H1 L (.lst [.ref T])) L [(some l, some u)] := ⟨_, SqL.of upd_same, .one (dSt_mk (p := (some l, some u)) (SqT.of ((Ex.new nL) _ _ hT)))⟩
    have c1 : Spn.Canon [((some l, some u) : Sx)] := Spn.Canon.one fun a b ea eb => by cases ea; cases eb; exact hlu
    have ml := Spn.met_len s [(some l, some u)]
    obtain ⟨mc, mm⟩ := Spn.met_ok cn c1
    have l1 : ([((some l, some u) : Sx)]).length = 1 := rfl
    refine ⟨t, L, true, false, s, _, rfl, ht.to e2, ha, by omega, by omega, fun m ys H3 e3 hm hd => ?_⟩
    refine ⟨m, false, _, rfl, ⟨ys, SqL.of hm, hd⟩, mc, by omega, fun x H4 e4 hx => k x _ H4 ((e2.trans e3).trans e4) ⟨hx.1, hx.2.1, by omega⟩ fun i => ?_⟩
    rw [mm, Spn.hasL_cons]
    unfold Spn.has
    constructor
    · rintro ⟨h1, h2 | h2⟩
      · exact ⟨h1, h2.1 l rfl, h2.2 u rfl⟩
      · exact absurd h2 (Spn.hasL_nil i)
    · rintro ⟨h1, h2, h3⟩
      exact ⟨h1, .inl ⟨fun a e => by cases e; exact h2, fun a e => by cases e; exact h3⟩⟩
end
end K12

set_option Elab.async false
set_option linter.all false
set_option maxRecDepth 100000
set_option maxHeartbeats 4000000
namespace Gx
open PySem PySem.Spec PyProof.Rows L2 Evl
/-! A list, whatever it holds, beside an empty one; how wide data without dicts is. -/
section
variable {X : Cx}
def rNeE (K : PySem.W.Frag) : R2 := fun x y H Q => ∃ a b xs, x = .ref a ∧ y = .ref b ∧ SqL K H a xs ∧ SqL K H b [] ∧ Q (.bl (!decide (xs = []))) H
theorem op_neE (hu : X.A.units + 64 < cLine) : OpR X (compareOp .NotEq) (rNeE X.K) := by
  intro pins s σ H x y v u Q I rx ry h
  obtain ⟨a, b, xs, rfl, rfl, ha, hb, q⟩ := h
  cases rx
  cases ry
  obtain ⟨its, r1, ⟨o, n, h1, h2, h3, h4⟩, _⟩ := I.list ha
  obtain ⟨jts, r2, ⟨p, m, k1, k2, k3, k4⟩, _⟩ := I.list hb
  have e2 : jts = [] := by have := r2.length; simpa using this.symm
  subst e2
  have hl : s.heap.IsList a its.toArray := ⟨o, h1, h2, n, h4⟩
  have hl' : s.heap.IsList b ([] : List Value).toArray := ⟨p, k1, k2, m, k4⟩
  cases xs with
  | nil =>
    have e1 : its = [] := by have := r1.length; simpa using this.symm
    subst e1
    exact SeqAt.RcNeAt.lists (e := fun _ => true) hl hl' rfl (by omega) (fun j j1 _ => absurd j1 (by simp)) X.prog X.w _ _ ⟨.bl _, H, I, rfl, q⟩
  | cons z zs =>
    have e1 : its.length ≠ 0 := by have := r1.length; simp at this; omega
    exact SeqAt.RcNeAt.lists_lengths hl hl' (by simpa using e1) (by omega) X.prog X.w _ _ ⟨.bl _, H, I, rfl, q⟩
end
mutual
theorem wq_wide : ∀ d : PyData, d.hasDict = false → wq d ≤ Gx.wide d
  | .none, _ => by simp [wq, Gx.wide]
  | .bool _, _ => by simp [wq, Gx.wide]
  | .int _, _ => by simp [wq, Gx.wide]
  | .str _, _ => by simp [wq, Gx.wide]
  | .list xs, h => by
    have := wqAll_wide xs (by simpa [PyData.hasDict] using h)
    simp only [wq, Gx.wide]; omega
  | .tuple xs, h => by
    have := wqAll_wide xs (by simpa [PyData.hasDict] using h)
    simp only [wq, Gx.wide]; omega
  | .dict _, h => by simp [PyData.hasDict] at h
theorem wqAll_wide : ∀ ds : List PyData, PyData.hasDictAll ds = false → wq.wqAll ds ≤ wide.wideAll ds
  | [], _ => Nat.le_refl _
  | d :: ds, h => by
    simp only [PyData.hasDictAll, Bool.or_eq_false_iff] at h
    have h1 := wq_wide d h.1
    have h2 := wqAll_wide ds h.2
    simp only [wq.wqAll, wide.wideAll]; omega
end
end Gx

set_option Elab.async false
set_option linter.all false
set_option maxRecDepth 100000
set_option maxHeartbeats 4000000
namespace K12
open PySem PySem.Spec PyProof.Rows L2 Evl Gx RZ
abbrev s_l_many : Stmt := topS 31
theorem sc_l_many : FnScope ["_law_listed", "_law_pair", "_law_low", "_law_high"] ["_law_listed"] (defScope s_l_many) := ⟨rfl, rfl, rfl, by decide +kernel, rfl, by decide +kernel, by decide +kernel⟩
theorem op_in_seqK {X : Cx} {K : PySem.W.Frag} (h : X.K = K) : OpR X (compareOp .In) (rIn K false) := by
  subst h
  exact op_in_seq
def spManyL (K : PySem.W.Frag) : Sp := fun vs H Q _ => ∃ (a : Addr) (xs : List V) (s : List Sx), vs = [.ref a] ∧ H a = some (.lst xs) ∧ DpAll K H xs (s.map dSt) ∧ s.length ≤ 1000 ∧ ∀ H', Ex H H' → Q (vO (manyO s)) H'
theorem fm_if {α β : Type} (c : α → Bool) (f : α → β) (s : List α) : s.filterMap (fun e => if c e = true then some (f e) else none) = (s.filter c).map f := by
  induction s with
  | nil => rfl
  | cons p s ih =>
    rw [List.filterMap_cons, List.filter_cons]
    cases h : c p
    · rw [if_neg (by decide), if_neg (by decide)]; exact ih
    · rw [if_pos rfl, if_pos rfl, List.map_cons]; simp only [ih]
theorem open_fin (s : List Sx) : PyData.eqv (.list ((s.filter (fun q => q.1.isNone || q.2.isNone)).map dSt)) (.list []) = Spn.fin s := by
  have e := dSts_eqv (s.filter (fun q => q.1.isNone || q.2.isNone)) []
  rw [List.map_nil] at e
  show PyData.eqv _ _ = _
  simp only [PyData.eqv]
  rw [e, Bool.eq_iff_iff, decide_eq_true_iff, List.filter_eq_nil_iff]
  unfold Spn.fin
  rw [List.all_eq_true]
  refine forall_congr' fun q => forall_congr' fun _ => ?_
  obtain ⟨a, b⟩ := q
  cases a <;> cases b <;> simp
section
variable {P : Program} {w : World} {K : PySem.W.Frag} {mg : Str → Option Value} {base : Heap}
theorem ok_manyL {f : Addr} {fd : FuncData} (D : Def K mg "_law_many" s_l_many f fd ["_law_listed"]) (bi : Bi mg) : FnOk P w K mg base CX0 1 f fd ["_law_listed"] (spManyL K) := by
  refine D.fn.ok sc_l_many (fun vs H Q E h => ?_) (fun cdv A outer s0 H vs Q E hr h => ?_)
  · obtain ⟨a, xs, s, rfl, _⟩ := h
    rfl
  · obtain ⟨a, xs, s, rfl, ha, hd, hz, k⟩ := h
    have hu64 := hr.units
    refine ⟨_, (pss_cons (ps_if (pt_cmpR (op_neD hu64) (pe_lc (own := [("_law_pair", 1)]) rfl sc_l_many.nd (pi_list (pv 0)) (blkOk_by (N := ["_law_listed", "_law_pair", "_law_low", "_law_high"]) (sc := defScope s_l_many) (by decide +kernel)) (fun _ _ _ _ _ => (pg_name (i := 1) sc_l_many.nd rfl (Or.inl rfl))) (fun _ _ _ _ _ => (pts_one (pt_cmpR (op_in_seqK (K := K) rfl) pe_non (pv 1) (by rfl)))) (fun _ _ _ _ _ => (pv 1))) (pe_lst pa_nil) (nomark _))
    (pss_one (ps_ret pe_non))
    pss_nil)
  (pss_one (ps_ret (pe_callB (cr_sum rfl) (by rfl) bi.sum bt_sum (pa_cons (pe_lc (own := [("_law_low", 2), ("_law_high", 3)]) (g := gTup K 2 (gCons (gName 2) (gCons (gName 3) gNil))) rfl sc_l_many.nd (pi_list (pv 0)) (blkOk_by (N := ["_law_listed", "_law_pair", "_law_low", "_law_high"]) (sc := defScope s_l_many) (by decide +kernel)) (fun _ _ _ _ _ => (pg_tup rfl (pgs_cons (pg_name (i := 2) sc_l_many.nd rfl (Or.inl rfl)) (pgs_cons (pg_name (i := 3) sc_l_many.nd rfl (Or.inl rfl)) pgs_nil)))) (fun _ _ _ _ _ => pts_nil) (fun _ _ _ _ _ => (pe_op op_add (pe_op op_sub (pv 3) (pv 2)) pe_int))) pa_nil))))), ?_⟩
    have hl := sts_len hd
    refine ⟨_, rfl, a, rfl, ⟨_, SqL.of ha⟩, fun D nD => ?_⟩
    refine lc_dp (t := false) (fun i => (s[i]?).bind fun q => if (q.1.isNone || q.2.isNone) = true then some (dSt q) else none) nD (SqL.of ha) (small (by omega)) ?_ ?_
    · rintro i x H5 N M hx e5 hN hM
      obtain ⟨⟨lo, hi⟩, q, hpi, rfl, hs⟩ := sts_get hd hx
      have hs5 := ex_t e5 hs
      have cv : ((s[i]?).bind fun q => if (q.1.isNone || q.2.isNone) = true then some (dSt q) else none) = if (lo.isNone || hi.isNone) = true then some (dSt (lo, hi)) else none := by rw [hpi]; rfl
      have fl : ([vO lo, vO hi]).all flatV = true := by cases lo <;> cases hi <;> rfl
      have yes : (lo.isNone || hi.isNone) = true → N (.ref q) H5 := fun c => hN _ _ _ (Ex.refl _) (by rw [cv, if_pos c]) (dSt_flat _) (dSt_mk (p := (lo, hi)) hs5)
      refine ⟨rfl, _, rfl, q, _, rfl, .inr hs5, rfl, fl, _, rfl, ?_⟩
      cases lo with
      | none => exact if_t (by cases hi <;> rfl) ⟨_, rfl, yes rfl⟩
      | some l =>
        cases hi with
        | none => exact if_t rfl ⟨_, rfl, yes rfl⟩
        | some u => exact if_f rfl (hM (by rw [cv]; rfl) _ (Ex.refl _))
    · intro H5 ys5 e5 hy5 hd5
      rw [hl, outs_bind, fm_if] at hd5
      refine ⟨Nat.zero_le _, fun E1 nE1 => ?_⟩
      have e6 : Ex H5 (upd H5 E1 (.lst [])) := Ex.new nE1
      refine ⟨.list _, .list [], .lst (SqL.of (e6 _ _ hy5)) (hd5.to e6), .lst (SqL.of upd_same) .nil, (dSts_shaped _).2, rfl, ?_⟩
      rw [open_fin]
      have e06 := e5.trans e6
      cases hf : Spn.fin s with
      | false =>
        have := k _ e06
        unfold manyO at this
        rw [hf] at this
        exact ⟨_, rfl, if_t rfl this⟩
      | true =>
        refine ⟨_, rfl, if_f rfl ?_⟩
        generalize upd H5 E1 (.lst []) = H6 at e06 ⊢
        have ha6 := e06 _ _ ha
        have hd6 := hd.to e06
        refine ⟨_, rfl, a, rfl, ⟨_, SqL.of ha6⟩, fun D2 nD2 => ?_⟩
        refine lc_dp (t := false) (fun i => (s[i]?).bind fun p => some (.int (Spn.cnt1 p))) nD2 (SqL.of ha6) (small (by omega)) ?_ ?_
        · rintro i x H7 N M hx e7 hN hM
          obtain ⟨⟨lo, hi⟩, q1, hp1, rfl, hs⟩ := sts_get hd6 hx
          have hf1 := List.all_eq_true.mp hf _ (List.mem_of_getElem? hp1)
          cases lo with
          | none => simp at hf1
          | some l =>
            cases hi with
            | none => simp at hf1
            | some u =>
              exact ⟨q1, _, rfl, ex_t e7 hs, rfl, _, _, rfl, _, _, rfl, rfl, rfl, _, rfl, _, rfl, u, l, rfl, rfl, u - l, 1, rfl, rfl, hN _ _ (.int (u - l + 1)) (Ex.refl _) (by rw [hp1]; rfl) rfl (.int _)⟩
        · intro H7 ys e7 hy hd1
          rw [hl, outs_bind, fm_map] at hd1
          obtain rfl := dpAll_ints_inv hd1
          refine ⟨D2, s.map Spn.cnt1, rfl, SqL.of hy, ?_⟩
          have := k H7 (e06.trans e7)
          unfold manyO at this
          rw [if_pos hf] at this
          exact this
end
end K12

set_option Elab.async false
set_option linter.all false
set_option maxRecDepth 100000
set_option maxHeartbeats 4000000
/-! sorted(xs) of any data that can be compared. -/
namespace Gx
open PySem PySem.Spec PyProof.Rows L2 Evl
/-- ds may be sorted: alike, tuples of an item at least or neither None nor tuples -/
def Sorts (ds : List PyData) : Prop := PySem.W.AllAlike ds ∧ PySem.W.Sortable ds ∧ ∀ d ∈ ds, d.depth ≤ 50
abbrev leD (p q : V × PyData) : Bool := !PySem.W.dataLt q.2 p.2
def rSortedD (K : PySem.W.Frag) : List V → Hp → VK → Prop := fun vs H Q => ∃ (a : Addr) (ps : List (V × PyData)), vs = [.ref a] ∧ SqL K H a (ps.map (·.1)) ∧ (∀ p ∈ ps, Dp K H p.1 p.2) ∧ Sorts (ps.map (·.2)) ∧
  ∀ p, H p = none → Q (.ref p) (upd H p (.lst ((ps.mergeSort leD).map (·.1))))
theorem each_reads {X : Cx} {pins : List (Addr × Obj)} {σ : L2.St} {H : Hp} {s : Shared} (I : L2.Inv X pins σ H s) : ∀ {ps : List (V × PyData)} {us : List Value}, (∀ p ∈ ps, Dp X.K H p.1 p.2) → PySem.W.EachIs (fun u b => RelV b.1 u) us ps →
    PySem.W.EachIs (fun u (b : V × PyData) => ∃ as, Reads s.heap u b.2 as) us ps
  | [], _, _, h => by cases h; exact .nil
  | p :: ps, _, d, h => by
    cases h with
    | cons h1 h2 =>
      exact .cons (Dp.reads I _ _ _ (d p List.mem_cons_self) h1) (each_reads I (fun q hq => d q (List.mem_cons_of_mem _ hq)) h2)
theorem cr_sortedD {X : Cx} (hu : X.A.units + 60 < cLine) : CallR X (.builtin "sorted") (rSortedD X.K) := by
  intro pins s σ H vs us Q I r h
  obtain ⟨a, ps, rfl, hs, hd, ⟨s1, s2, s3⟩, q⟩ := h
  obtain rfl := Vals.ref1 r
  obtain ⟨its, rv, hl, hz⟩ := I.list hs
  have hz' : ps.length ≤ sizeLine := by simpa using hz
  have ev := each_vals (fun b : V × PyData => b.1) rv
  refine PySem.W.sorted_data (β := V × PyData) (R := fun u b => RelV b.1 u) (enc := fun b => b.2) hl.isList ev (each_reads I hd ev) s1 s2 hz' (fun b hb => ?_) fun out lo he => ?_
  · have := s3 b.2 (List.mem_map.mpr ⟨b, hb, rfl⟩)
    show X.A.units + 2 + b.2.depth < cLine
    omega
  · have hv := vals_each (fun b : V × PyData => b.1) he
    obtain ⟨e, le⟩ := sortedAll_at s.heap its (List.toArray out)
    have lb : PySem.W.dataLe false (fun b : V × PyData => b.2) = leD := rfl
    rw [lb] at hv
    have hL : ((ps.mergeSort leD).map (·.1)).length ≤ sizeLine := by simpa using hz'
    exact ⟨.ref _, upd H (s.heap.objs.size + 1) (.lst ((ps.mergeSort leD).map (·.1))), I.laid (t' := s.toks) (fun b o z => sortedAll_old z) (Nat.le_succ _) ⟨hL, out, e, hv, le⟩, rfl, q _ (I.hok.fresh (Nat.le_succ _))⟩
end Gx

set_option Elab.async false
set_option linter.all false
set_option maxRecDepth 100000
set_option maxHeartbeats 4000000
namespace K12
open PySem PySem.Spec PyProof.Rows L2 Evl Gx RZ
abbrev s_l_nearest : Stmt := topS 30
theorem sc_l_nearest : FnScope ["_law_listed", "_law_some", "_law_pair", "_law_end", "_law_number"] ["_law_listed"] (defScope s_l_nearest) := ⟨rfl, rfl, rfl, by decide +kernel, rfl, by decide +kernel, by decide +kernel⟩
def spNearL (K : PySem.W.Frag) : Sp := fun vs H Q _ => ∃ (a : Addr) (xs : List V) (s : List Sx), vs = [.ref a] ∧ H a = some (.lst xs) ∧ DpAll K H xs (s.map dSt) ∧ (∀ p ∈ s, Spn.ok p) ∧ s.length ≤ 1000 ∧
  ∀ o H', Spn.leastO s o → Ex H H' → Q (vO o) H'
/-- a number as the law lays it out -/
def triD (n : Int) : PyData := .tuple [.int (if n < 0 then -n else n), .bool (decide (n < 0)), .int n]
theorem tri_lt (n m : Int) : PySem.W.dataLt (triD n) (triD m) = decide (distC n < distC m) := by
  unfold triD
  rw [PySem.W.dataLt_tuple, PySem.W.dataLt_cons rfl, PySem.W.dataLt_cons rfl, PySem.W.dataLt_cons rfl]
  have e0 : PyProof.Rows.lexLt itemOrd (PySem.W.keyToksAll []) (PySem.W.keyToksAll []) = false := PyProof.Rows.lex_irrefl _
  rw [e0]
  unfold distC
  by_cases h1 : n < 0 <;> by_cases h2 : m < 0 <;> simp only [h1, h2, if_true, if_false, decide_true, decide_false, PyData.eqv, PySem.W.dataLt_int, PySem.W.dataLt_bool] <;>
    (split <;> (rename_i h; simp only [beq_iff_eq] at h) <;> simp [b2i] <;> (try split) <;> (try omega) <;> (try (obtain rfl : n = m := by omega) <;> simp))
theorem tri_sorts (ns : List Int) : Sorts (ns.map triD) := by
  refine ⟨fun d hd d' hd' => ?_, .inl fun d hd => ?_, fun d hd => ?_⟩
  · obtain ⟨n, _, rfl⟩ := List.mem_map.mp hd
    obtain ⟨m, _, rfl⟩ := List.mem_map.mp hd'
    rfl
  · obtain ⟨n, _, rfl⟩ := List.mem_map.mp hd
    exact ⟨_, _, rfl⟩
  · obtain ⟨n, _, rfl⟩ := List.mem_map.mp hd
    show (triD n).depth ≤ 50
    unfold triD
    simp [PyData.depth, PyData.depthAll]
/-- the first of what is sorted -/
theorem tri_first {ps : List (V × PyData)} {ns : List Int} (h : ps.map (·.2) = ns.map triD) (ne : ns ≠ []) :
    ∃ (p : V × PyData) (r : List (V × PyData)) (n : Int), ps.mergeSort leD = p :: r ∧ p ∈ ps ∧ p.2 = triD n ∧ n ∈ ns ∧ ∀ m ∈ ns, distC n ≤ distC m := by
  have pm := List.mergeSort_perm ps leD
  have inv : ∀ p ∈ ps, ∃ n ∈ ns, p.2 = triD n := fun p hp => by
    have : p.2 ∈ ns.map triD := by rw [← h]; exact List.mem_map.mpr ⟨p, hp, rfl⟩
    obtain ⟨n, hn, e⟩ := List.mem_map.mp this
    exact ⟨n, hn, e.symm⟩
  have back : ∀ n ∈ ns, ∃ p ∈ ps, p.2 = triD n := fun n hn => by
    have : triD n ∈ ps.map (·.2) := by rw [h]; exact List.mem_map.mpr ⟨n, hn, rfl⟩
    obtain ⟨p, hp, e⟩ := List.mem_map.mp this
    exact ⟨p, hp, e⟩
  cases q : ps.mergeSort leD with
  | nil =>
    rw [q] at pm
    have : ps = [] := List.nil_perm.mp pm
    subst this
    obtain ⟨n, hn⟩ := List.exists_mem_of_ne_nil ns ne
    obtain ⟨p, hp, _⟩ := back n hn
    cases hp
  | cons p r =>
    have hp : p ∈ ps := pm.mem_iff.mp (by rw [q]; exact List.mem_cons_self)
    obtain ⟨n, hn, en⟩ := inv p hp
    refine ⟨p, r, n, rfl, hp, en, hn, fun m hm => ?_⟩
    obtain ⟨p2, hp2, em⟩ := back m hm
    have tot : ∀ a b : V × PyData, a ∈ ps → b ∈ ps → (leD a b = true ∨ leD b a = true) := fun a b ha hb => by
      obtain ⟨x, _, ex⟩ := inv a ha
      obtain ⟨y, _, ey⟩ := inv b hb
      unfold leD
      rw [ex, ey, tri_lt, tri_lt]
      simp
      omega
    have le_iff : ∀ a ∈ ps, ∀ b ∈ ps, ∀ x y, a.2 = triD x → b.2 = triD y → (leD a b = true ↔ distC x ≤ distC y) := fun a _ b _ x y ex ey => by
      unfold leD
      rw [ex, ey, tri_lt]
      simp
    have srt : (ps.mergeSort leD).Pairwise fun a b => leD a b = true := by
      exact PySem.W.sort_pairwise (PySem.W.sortLe_total (PyProof.Rows.listOrd itemOrd) false fun b : V × PyData => PySem.W.keyToks b.2) ps
    rw [q] at srt
    have hp2' : p2 ∈ p :: r := by rw [← q]; exact pm.mem_iff.mpr hp2
    rcases List.mem_cons.mp hp2' with e | e
    · subst e
      rw [en] at em
      have : n = m := by unfold triD at em; simp only [PyData.tuple.injEq, List.cons.injEq, PyData.int.injEq] at em; exact em.2.2.1
      rw [this]; exact Int.le_refl _
    · exact (le_iff p hp p2 hp2 n m en em).mp ((List.pairwise_cons.mp srt).1 p2 e)
section
variable {P : Program} {w : World} {K : PySem.W.Frag} {mg : Str → Option Value} {base : Heap} {f_l_lies : Addr} {fd_l_lies : FuncData}
theorem ok_nearL {f : Addr} {fd : FuncData} (D : Def K mg "_law_nearest" s_l_nearest f fd ["_law_listed"]) (bi : Bi mg)
    (D_l_lies : Def K mg "_law_lies" s_l_lies f_l_lies fd_l_lies ["_law_pairs", "_law_number"])
    (G_l_lies : FnOk P w K mg base CX0 1 f_l_lies fd_l_lies ["_law_pairs", "_law_number"] (spLies K)) : FnOk P w K mg base CX0 2 f fd ["_law_listed"] (spNearL K) := by
  refine D.fn.ok sc_l_nearest (fun vs H Q E h => ?_) (fun cdv A outer s0 H vs Q E hr h => ?_)
  · obtain ⟨a, xs, s, rfl, _⟩ := h
    rfl
  · obtain ⟨a, xs, s, rfl, ha, hd, hok, hz, k⟩ := h
    have hu64 := hr.units
    have hu60 := Nat.lt_of_le_of_lt (Nat.add_le_add_left (by decide : 60 ≤ 64) _) hu64
    refine ⟨_, (pss_cons (ps_if (pt_cmpR (op_eqD hu64) (pv 0) (pe_lst pa_nil) (nomark _))
    (pss_one (ps_ret pe_non))
    pss_nil)
  (pss_cons (ps_set (i := 1) sc_l_nearest.nd rfl (Or.inl rfl) (pe_op op_repL (pe_lst (pa_cons pe_int pa_nil)) (pe_callTy call_int1 (by rfl) bi.int bt_int (pa_cons (pe_call G_l_lies (hr.mono (by first | decide | omega)) rfl D_l_lies.mg D_l_lies.fn.kp D_l_lies.bd .nil pass0 (pa_cons (pv 0) (pa_cons pe_int pa_nil))) pa_nil))))
  (pss_cons (ps_for PassesOwn.never rfl (pi_list (pv 0)) (pg_name (i := 2) sc_l_nearest.nd rfl (Or.inl rfl))
    (pss_one (ps_set (i := 1) sc_l_nearest.nd rfl (Or.inl rfl) (pe_op op_cat (pv 1) (pe_lc (own := [("_law_end", 3)]) rfl sc_l_nearest.nd (pi_tup (pv 2)) (blkOk_by (N := ["_law_listed", "_law_some", "_law_pair", "_law_end", "_law_number"]) (sc := defScope s_l_nearest) (by decide +kernel)) (fun _ _ _ _ _ => (pg_name (i := 3) sc_l_nearest.nd rfl (Or.inl rfl))) (fun _ _ _ _ _ => (pts_one (pt_cmpR op_notN (pv 3) pe_non (nomark _)))) (fun _ _ _ _ _ => (pv 3)))))))
  (pss_one (ps_ret (pe_ix (ix_tupK (K := K) rfl) (pe_ix (ix_listK (K := K) rfl) (pe_callB (cr_sortedD hu60) (by rfl) bi.sorted bt_sorted (pa_cons (pe_lc (own := [("_law_number", 4)]) rfl sc_l_nearest.nd (pi_list (pv 1)) (blkOk_by (N := ["_law_listed", "_law_some", "_law_pair", "_law_end", "_law_number"]) (sc := defScope s_l_nearest) (by decide +kernel)) (fun _ _ _ _ _ => (pg_name (i := 4) sc_l_nearest.nd rfl (Or.inl rfl))) (fun _ _ _ _ _ => pts_nil) (fun _ _ _ _ _ => (pe_tup (pa_cons (pe_callB call_abs (by rfl) bi.abs bt_abs (pa_cons (pv 4) pa_nil)) (pa_cons (pe_cmpR op_lt (pv 4) pe_int (nomark _)) (pa_cons (pv 4) pa_nil)))))) pa_nil)) pe_int (fun _ _ => rfl)) pe_int (fun _ _ => rfl))))))), ?_⟩
    have hl := sts_len hd
    refine ⟨_, rfl, Nat.zero_le _, fun E nE => ?_⟩
    have e1 : Ex H (upd H E (.lst [])) := Ex.new nE
    refine ⟨.list (s.map dSt), .list [], .lst (SqL.of (e1 _ _ ha)) (hd.to e1), .lst (SqL.of upd_same) .nil, (dSts_shaped _).2, rfl, ?_⟩
    generalize upd H E (.lst []) = H1 at e1 ⊢
    have eq0 : PyData.eqv (.list (s.map dSt)) (.list []) = decide (s = []) := by
      have e := dSts_eqv s []
      rw [List.map_nil] at e
      simp only [PyData.eqv]
      exact e
    rw [eq0]
    by_cases hs : s = []
    · rw [decide_eq_true hs]
      exact ⟨_, rfl, if_t rfl (k none H1 hs e1)⟩
    · rw [decide_eq_false hs]
      refine ⟨_, rfl, if_f rfl ?_⟩
      have ha1 := e1 _ _ ha
      refine ⟨sz1, fun p np => ?_⟩
      have e2 : Ex H1 (upd H1 p (.lst [.int 0])) := Ex.new np
      have hp : upd H1 p (.lst [.int 0]) p = some (.lst [.int 0]) := upd_same
      generalize upd H1 p (.lst [.int 0]) = H2 at e2 hp ⊢
      have sl2 : StsB false K H2 a s := ⟨xs, SqL.of (e2 _ _ ha1), (hd.to e1).to e2⟩
      refine ⟨_, rfl, a, false, s, 0, rfl, sl2, fun H3 e3 => ?_⟩
      have hp3 := e3 _ _ hp
      refine .inr ⟨Spn.lies s 0, rfl, p, _, [.int 0], rfl, rfl, SqL.of hp3, by cases Spn.lies s 0 <;> decide, by cases Spn.lies s 0 <;> decide, (by show 1 ≤ 100; decide), fun q nq => ?_⟩
      have rr : (List.replicate (if Spn.lies s 0 = true then (1 : Int) else 0).toNat [V.int 0]).flatten = (if Spn.lies s 0 = true then [(0 : Int)] else []).map V.int := by cases Spn.lies s 0 <;> rfl
      rw [rr]
      have e4 : Ex H3 (upd H3 q (.lst ((if Spn.lies s 0 = true then [(0 : Int)] else []).map V.int))) := Ex.new nq
      have hq : upd H3 q (.lst ((if Spn.lies s 0 = true then [(0 : Int)] else []).map V.int)) q = some (.lst ((if Spn.lies s 0 = true then [(0 : Int)] else []).map V.int)) := upd_same
      generalize upd H3 q (.lst ((if Spn.lies s 0 = true then [(0 : Int)] else []).map V.int)) = H4 at e4 hq ⊢
      have e04 := ((e1.trans e2).trans e3).trans e4
      have ha4 := e04 _ _ ha
      refine ⟨_, rfl, a, rfl, ⟨_, SqL.of ha4⟩, ?_⟩
      have fl : ∀ i, ((s.take i).flatMap fun p => p.1.toList ++ p.2.toList).length ≤ 2 * i := fun i => by
        have : ∀ r : List Sx, (r.flatMap fun p => p.1.toList ++ p.2.toList).length ≤ 2 * r.length := fun r => by
          induction r with
          | nil => simp
          | cons c r ih =>
            obtain ⟨lo, hi⟩ := c
            rw [List.flatMap_cons, List.length_append, List.length_cons]
            have : ((lo.toList ++ hi.toList).length) ≤ 2 := by cases lo <;> cases hi <;> simp
            show (lo.toList ++ hi.toList).length + _ ≤ _
            omega
        have h1 := this (s.take i)
        have h2 : (s.take i).length ≤ i := by rw [List.length_take]; omega
        omega
      refine for_list (xs := xs) (fun i σ G => ∃ (l : Addr) (x2 x3 x4 : Option V), σ = [some (.ref a), some (.ref l), x2, x3, x4] ∧ Ex H4 G ∧
        G l = some (.lst (((if Spn.lies s 0 = true then [(0 : Int)] else []) ++ (s.take i).flatMap fun p => p.1.toList ++ p.2.toList).map V.int))) ?_ (fun i σ G _ z => ?_) ?_ ?_
      · exact ⟨q, none, none, none, rfl, Ex.refl _, by rw [List.take_zero, List.flatMap_nil, List.append_nil]; exact hq⟩
      · obtain ⟨_, _, _, _, _, e, _⟩ := z
        exact SqL.of (e _ _ ha4)
      · rintro i x σ G hx ⟨l, x2, x3, x4, rfl, eG, gl⟩
        obtain ⟨⟨lo, hi⟩, t, hpi, rfl, ht⟩ := sts_get hd hx
        have eHG := e04.trans eG
        have il : i < s.length := (List.getElem?_eq_some_iff.mp hpi).1
        refine ⟨_, rfl, _, rfl, t, rfl, ⟨_, ex_t eHG ht⟩, fun D nD => ?_⟩
        refine lc_dp (t := true) (fun i => (([lo, hi] : List (Option Int))[i]?).bind fun o => o.map PyData.int) nD (ex_t eHG ht) (by show 2 < sizeLine; decide) ?_ ?_
        · rintro j y H5 N M hy e5 hN hM
          match j, hy with
          | 0, hy =>
            cases hy
            refine ⟨rfl, _, rfl, rfl, _, rfl, ?_⟩
            cases lo with
            | none => exact if_f rfl (hM rfl _ (Ex.refl _))
            | some n => exact if_t rfl ⟨_, rfl, hN _ _ (.int n) (Ex.refl _) rfl rfl (.int _)⟩
          | 1, hy =>
            cases hy
            refine ⟨rfl, _, rfl, rfl, _, rfl, ?_⟩
            cases hi with
            | none => exact if_f rfl (hM rfl _ (Ex.refl _))
            | some n => exact if_t rfl ⟨_, rfl, hN _ _ (.int n) (Ex.refl _) rfl rfl (.int _)⟩
          | j + 2, hy => simp at hy
        · intro H5 ys e5 hy hd5
          have e : outs (fun i => (([lo, hi] : List (Option Int))[i]?).bind fun o => o.map PyData.int) 2 = (lo.toList ++ hi.toList).map PyData.int := by cases lo <;> cases hi <;> rfl
          have hd5 : DpAll K H5 ys (outs (fun i => (([lo, hi] : List (Option Int))[i]?).bind fun o => o.map PyData.int) 2) := hd5
          rw [e] at hd5
          obtain rfl := dpAll_ints_inv hd5
          have f5 := fl i
          have lz : (if Spn.lies s 0 = true then [(0 : Int)] else []).length ≤ 1 := by split <;> simp
          have lt : (lo.toList ++ hi.toList).length ≤ 2 := by cases lo <;> cases hi <;> simp
          refine ⟨l, D, _, _, rfl, rfl, e5 _ _ gl, hy, by rw [List.length_map, List.length_map, List.length_append, sizeLine_eq]; omega, fun r nr => ?_⟩
          refine ⟨r, _, _, _, rfl, (eG.trans e5).trans (Ex.new nr), ?_⟩
          rw [upd_same, takeS hpi, List.flatMap_append, List.flatMap_cons, List.flatMap_nil, List.append_nil, ← List.append_assoc, List.map_append (l₂ := lo.toList ++ hi.toList)]
      · rintro σ G ⟨l, x2, x3, x4, rfl, eG, gl⟩
        rw [hl, List.take_length] at gl
        have gl : G l = some (.lst ((Spn.cand s).map V.int)) := gl
        have clen : (Spn.cand s).length ≤ 3000 := by
          have h1 := fl s.length
          rw [List.take_length] at h1
          unfold Spn.cand
          rw [List.length_append]
          have lz : (if Spn.lies s 0 = true then [(0 : Int)] else []).length ≤ 1 := by split <;> simp
          omega
        refine ⟨_, rfl, l, rfl, ⟨_, SqL.of gl⟩, fun D nD => ?_⟩
        refine lc_dp (t := false) (fun i => ((Spn.cand s)[i]?).bind fun n => some (triD n)) nD (SqL.of gl) (by rw [List.length_map]; exact small (by omega)) ?_ ?_
        · rintro i x H5 N M hx e5 hN hM
          rw [List.getElem?_map] at hx
          obtain ⟨n, hn, rfl⟩ := Option.map_eq_some_iff.mp hx
          refine ⟨rfl, _, rfl, n, rfl, _, rfl, n, 0, rfl, rfl, _, rfl, sz3, fun T nT => ?_⟩
          exact hN _ _ (triD n) (Ex.new nT) (by rw [hn]; rfl) rfl (.tup (SqT.of upd_same) (.cons (.int _) (.cons (.bl _) (.cons (.int _) .nil))))
        · intro H5 ys e5 hy hd5
          rw [List.length_map, outs_bind] at hd5
          have em : (Spn.cand s).filterMap (fun n => some (triD n)) = (Spn.cand s).map triD := by
            induction Spn.cand s with
            | nil => rfl
            | cons c r ih => rw [List.filterMap_cons, List.map_cons]; simp only [ih]
          rw [em] at hd5
          obtain ⟨zs, z1, z2, z3⟩ := zip_dpAll triD hd5
          have m1 : (zs.map fun z => (z.1, triD z.2)).map (·.1) = ys := by rw [List.map_map]; exact z1
          have m2 : (zs.map fun z => (z.1, triD z.2)).map (·.2) = (Spn.cand s).map triD := by rw [List.map_map, ← z2, List.map_map]; rfl
          have dz : ∀ p ∈ zs.map fun z => (z.1, triD z.2), Dp K H5 p.1 p.2 := fun p hp => by
            obtain ⟨z, hz, rfl⟩ := List.mem_map.mp hp
            exact z3 z hz
          obtain ⟨p, r, n, ep, hpm, en, hn, hm⟩ := tri_first m2 (Spn.cand_nil hs hok)
          refine ⟨D, zs.map fun z => (z.1, triD z.2), rfl, by rw [m1]; exact SqL.of hy, dz, by rw [m2]; exact tri_sorts _, fun L nL => ?_⟩
          have dp := dz p hpm
          rw [en] at dp
          have eL : Ex H5 (upd H5 L (.lst (((zs.map fun z => (z.1, triD z.2)).mergeSort leD).map (·.1)))) := Ex.new nL
          have hL : upd H5 L (.lst (((zs.map fun z => (z.1, triD z.2)).mergeSort leD).map (·.1))) L = some (.lst (p.1 :: r.map (·.1))) := by rw [upd_same, ep, List.map_cons]
          generalize upd H5 L (.lst (((zs.map fun z => (z.1, triD z.2)).mergeSort leD).map (·.1))) = H6 at eL hL ⊢
          obtain ⟨pv, pd⟩ := p
          have dp : Dp K H5 pv (triD n) := dp
          cases dp with
          | tup a b =>
            cases b with
            | cons b1 b => cases b with
              | cons b2 b => cases b with
                | cons b3 b =>
                  cases b
                  cases b3
                  refine ⟨L, _, 0, _, rfl, rfl, SqL.of hL, atI_nat (j := 0) rfl, _, _, 2, _, rfl, rfl, ex_t eL a, rfl, ?_⟩
                  exact k (some n) _ (Spn.cand_least hok hn hm) (((e04.trans eG).trans e5).trans eL)
end
end K12

set_option Elab.async false
set_option linter.all false
set_option maxRecDepth 100000
set_option maxHeartbeats 4000000
namespace K12
open PySem PySem.Spec PyProof.Rows L2 Evl Gx RZ
abbrev s_l_are_told : Stmt := topS 29
theorem sc_l_are_told : FnScope ["_law_pairs", "_law_listed", "_law_last", "_law_at", "_law_one", "_law_number"] ["_law_pairs", "_law_listed"] (defScope s_l_are_told) := ⟨rfl, rfl, rfl, by decide +kernel, rfl, by decide +kernel, by decide +kernel⟩
def spTold (K : PySem.W.Frag) : Sp := fun vs H Q _ => ∃ (a b : Addr) (xs : List V) (s r : List Sx), vs = [.ref a, .ref b] ∧ H a = some (.lst xs) ∧ DpAll K H xs (s.map dSt) ∧ StsB false K H b r ∧
  Spn.Canon r ∧ (∀ i, Spn.hasL s i ↔ Spn.hasL r i) ∧ s.length ≤ 1000 ∧ r.length ≤ 1000 ∧ ∀ H', Ex H H' → Q (.bl true) H'
section
variable {P : Program} {w : World} {K : PySem.W.Frag} {mg : Str → Option Value} {base : Heap} {f_l_lies f_l_ends : Addr} {fd_l_lies fd_l_ends : FuncData}
theorem ok_told {f : Addr} {fd : FuncData} (D : Def K mg "_law_are_told" s_l_are_told f fd ["_law_pairs", "_law_listed"]) (bi : Bi mg)
    (D_l_lies : Def K mg "_law_lies" s_l_lies f_l_lies fd_l_lies ["_law_pairs", "_law_number"])
    (G_l_lies : FnOk P w K mg base CX0 1 f_l_lies fd_l_lies ["_law_pairs", "_law_number"] (spLies K))
    (D_l_ends : Def K mg "_law_ends" s_l_ends f_l_ends fd_l_ends ["_law_pairs"])
    (G_l_ends : FnOk P w K mg base CX0 1 f_l_ends fd_l_ends ["_law_pairs"] (spEnds K)) : FnOk P w K mg base CX0 2 f fd ["_law_pairs", "_law_listed"] (spTold K) := by
  refine D.fn.ok sc_l_are_told (fun vs H Q E h => ?_) (fun cdv A outer s0 H vs Q E hr h => ?_)
  · obtain ⟨a, b, xs, s, r, rfl, _⟩ := h
    rfl
  · obtain ⟨a, b, xs, s, r, rfl, ha, hdx, ⟨ys, hq, hd⟩, cn, hm, lz, lr, k⟩ := h
    have hsx : StsB false K H a s := ⟨xs, SqL.of ha, hdx⟩
    have hsy : StsB false K H b r := ⟨ys, hq, hd⟩
    have eqL : ∀ i, Spn.lies s i = Spn.lies r i := fun i => by
      have := hm i
      rw [← Spn.lies_iff, ← Spn.lies_iff] at this
      exact Bool.eq_iff_iff.mpr this
    refine ⟨_, (pss_cons (ps_set (i := 2) sc_l_are_told.nd rfl (Or.inl rfl) pe_non)
  (pss_cons (ps_for PassesOwn.never rfl (pi_enum rfl bi.enumerate (pa_cons (pv 1) pa_nil)) (pg_tup rfl (pgs_cons (pg_name (i := 3) sc_l_are_told.nd rfl (Or.inl rfl)) (pgs_cons (pg_name (i := 4) sc_l_are_told.nd rfl (Or.inl rfl)) pgs_nil)))
    (Evl.pss_cut (ps_if (L2.PW.pt (pw_or (pt_not (pt_val (pe_callB call_isi (by rfl) bi.isinstance bt_isinstance (pa_cons (pv 4) (pa_cons (pe_bltn (v := .ty "tuple") rfl bi.tuple bt_tuple rfl) pa_nil))))) (pw_or (pt_cmpR op_ne (pe_callB call_len_seq (by rfl) bi.len bt_len (pa_cons (pv 4) pa_nil)) pe_int (nomark _)) (pw_or1 (L2.PW.pt (pw_and (pt_cmpR op_isN (pe_ix (ix_tupK (K := K) rfl) (pv 4) pe_int (fun _ _ => rfl)) pe_non (nomark _)) (pw_and1 (pt_cmpR op_gt (pv 3) pe_int (nomark _)))))))))
      (pss_one (ps_ret pe_bl))
      pss_nil)
    (Evl.pss_cut (ps_if (L2.PW.pt (pw_and (pt_cmpR op_notN (pe_ix (ix_tupK (K := K) rfl) (pv 4) pe_int (fun _ _ => rfl)) pe_non (nomark _)) (pw_and1 (L2.PW.pt (pw_or (pt_val (pe_call G_l_lies (hr.mono (by first | decide | omega)) rfl D_l_lies.mg D_l_lies.fn.kp D_l_lies.bd .nil pass0 (pa_cons (pv 0) (pa_cons (pe_op op_sub (pe_ix (ix_tupK (K := K) rfl) (pv 4) pe_int (fun _ _ => rfl)) pe_int) pa_nil)))) (pw_or1 (pt_not (pt_val (pe_call G_l_lies (hr.mono (by first | decide | omega)) rfl D_l_lies.mg D_l_lies.fn.kp D_l_lies.bd .nil pass0 (pa_cons (pv 0) (pa_cons (pe_ix (ix_tupK (K := K) rfl) (pv 4) pe_int (fun _ _ => rfl)) pa_nil)))))))))))
      (pss_one (ps_ret pe_bl))
      pss_nil)
    (Evl.pss_cut (ps_if (L2.PW.pt (pw_and (pt_cmpR op_notN (pe_ix (ix_tupK (K := K) rfl) (pv 4) pe_int (fun _ _ => rfl)) pe_non (nomark _)) (pw_and1 (L2.PW.pt (pw_or (pt_val (pe_call G_l_lies (hr.mono (by first | decide | omega)) rfl D_l_lies.mg D_l_lies.fn.kp D_l_lies.bd .nil pass0 (pa_cons (pv 0) (pa_cons (pe_op op_add (pe_ix (ix_tupK (K := K) rfl) (pv 4) pe_int (fun _ _ => rfl)) pe_int) pa_nil)))) (pw_or1 (pt_not (pt_val (pe_call G_l_lies (hr.mono (by first | decide | omega)) rfl D_l_lies.mg D_l_lies.fn.kp D_l_lies.bd .nil pass0 (pa_cons (pv 0) (pa_cons (pe_ix (ix_tupK (K := K) rfl) (pv 4) pe_int (fun _ _ => rfl)) pa_nil)))))))))))
      (pss_one (ps_ret pe_bl))
      pss_nil)
    (Evl.pss_cut (ps_if (L2.PW.pt (pw_or (L2.PW.pt (pw_and (pt_cmpR op_notIn_seq pe_non (pv 4) (by rfl)) (pw_and1 (pt_cmpR op_gt (pe_ix (ix_tupK (K := K) rfl) (pv 4) pe_int (fun _ _ => rfl)) (pe_ix (ix_tupK (K := K) rfl) (pv 4) pe_int (fun _ _ => rfl)) (nomark _))))) (pw_or1 (L2.PW.pt (pw_and (pt_cmpR op_gt (pv 3) pe_int (nomark _)) (pw_and1 (L2.PW.pt (pw_or (pt_cmpR op_isN (pv 2) pe_non (nomark _)) (pw_or1 (pt_cmpR op_ge (pe_op op_add (pv 2) pe_int) (pe_ix (ix_tupK (K := K) rfl) (pv 4) pe_int (fun _ _ => rfl)) (nomark _)))))))))))
      (pss_one (ps_ret pe_bl))
      pss_nil)
    (pss_one (ps_set (i := 2) sc_l_are_told.nd rfl (Or.inl rfl) (pe_ix (ix_tupK (K := K) rfl) (pv 4) pe_int (fun _ _ => rfl)))))))))
  (pss_cons (ps_for PassesOwn.never rfl (pi_list (pe_call G_l_ends (hr.mono (by first | decide | omega)) rfl D_l_ends.mg D_l_ends.fn.kp D_l_ends.bd .nil pass0 (pa_cons (pe_op op_cat (pv 0) (pe_callTy call_list_of (by rfl) bi.list bt_list (pa_cons (pv 1) pa_nil))) pa_nil))) (pg_name (i := 5) sc_l_are_told.nd rfl (Or.inl rfl))
    (pss_one (ps_if (pt_cmpR op_ne (pe_call G_l_lies (hr.mono (by first | decide | omega)) rfl D_l_lies.mg D_l_lies.fn.kp D_l_lies.bd .nil pass0 (pa_cons (pv 0) (pa_cons (pv 5) pa_nil))) (pe_call G_l_lies (hr.mono (by first | decide | omega)) rfl D_l_lies.mg D_l_lies.fn.kp D_l_lies.bd .nil pass0 (pa_cons (pv 1) (pa_cons (pv 5) pa_nil))) (nomark _))
      (pss_one (ps_ret pe_bl))
      pss_nil)))
  (pss_one (ps_ret pe_bl))))), ?_⟩
    refine ⟨_, rfl, b, ys, rfl, hq, ?_⟩
    refine for_enumL (xs := ys) (fun i σ H' => ∃ (x3 x4 : Option V) (x2 : Option Int) (x5 : Option V), σ = [some (.ref a), some (.ref b), some (vO x2), x3, x4, x5] ∧ Ex H H' ∧ (∀ p j, i = j + 1 → r[j]? = some p → x2 = p.2)) ?_ (fun i σ H' _ q => ?_) ?_ ?_
    · exact ⟨none, none, none, none, rfl, Ex.refl H, fun p j e => by omega⟩
    · obtain ⟨_, _, _, _, _, e, _⟩ := q
      exact ex_l e hq
    · rintro i x T σ H1 hx ⟨x3, x4, x2, x5, rfl, e1, hl⟩ nT
      obtain ⟨⟨lo, hi⟩, q, hp, rfl, hs⟩ := sts_get hd hx
      have e2 : Ex H1 (upd H1 T (.tup [.int (i : Nat), .ref q])) := Ex.new nT
      have hT : upd H1 T (.tup [.int (i : Nat), .ref q]) T = some (.tup [.int (i : Nat), .ref q]) := upd_same
      generalize upd H1 T (.tup [.int (i : Nat), .ref q]) = H2 at e2 hT ⊢
      have e02 := e1.trans e2
      have hmem := List.mem_of_getElem? hp
      have prev : i = 0 ∨ ∃ (p : Sx) (h l : Int) (j : Nat), i = j + 1 ∧ r[j]? = some p ∧ p.2 = some h ∧ lo = some l ∧ h + 1 < l := by
        cases i with
        | zero => exact .inl rfl
        | succ j =>
          have jl : j < r.length := by have := (List.getElem?_eq_some_iff.mp hp).1; omega
          obtain ⟨h, l, e1, e2, e3⟩ := Spn.canon_next cn (List.getElem?_eq_getElem jl) hp
          exact .inr ⟨_, h, l, j, rfl, List.getElem?_eq_getElem jl, e1, e2, e3⟩
      have sl : ∀ H', Ex H2 H' → StsB false K H' a s := fun H' e => hsx.to (e02.trans e)
      have sq : ∀ H', Ex H2 H' → SqT K H' q [vO lo, vO hi] := fun H' e => ex_t (e02.trans e) hs
      refine ⟨T, _, rfl, SqT.of hT, rfl, _, _, rfl, _, _, rfl, rfl, ?_⟩
      -- the first if
      refine ⟨fun σ H' => σ = [some (.ref a), some (.ref b), some (vO x2), some (.int (i : Nat)), some (.ref q), x5] ∧ Ex H2 H', ?_, ?_⟩
      · have s2 := sq H2 (Ex.refl _)
        refine ⟨_, rfl, .ref q, .ty "tuple", .type "tuple", .type "tuple", true, rfl, .ty "tuple", ty_tup s2, ko_tt, _, rfl, if_f rfl ?_⟩
        refine ⟨_, rfl, q, _, rfl, .inr s2, rfl, _, rfl, if_nd (fun h => absurd rfl h) fun _ => ?_⟩
        refine ⟨_, rfl, q, _, 0, _, rfl, rfl, s2, rfl, rfl, _, rfl, ?_⟩
        cases lo with
        | none =>
          refine if_t rfl ⟨_, rfl, (i : Int), 0, rfl, rfl, _, rfl, if_d (fun hi0 => ?_) fun _ => ⟨rfl, Ex.refl _⟩⟩
          rcases prev with z | ⟨_, _, _, _, _, _, _, z, _⟩
          · omega
          · cases z
        | some l => exact if_f rfl (if_f rfl ⟨rfl, Ex.refl _⟩)
      · rintro σ H3 ⟨rfl, e3⟩
        -- the second
        refine ⟨fun σ H' => σ = [some (.ref a), some (.ref b), some (vO x2), some (.int (i : Nat)), some (.ref q), x5] ∧ Ex H2 H', ?_, ?_⟩
        · refine ⟨_, rfl, q, _, 0, _, rfl, rfl, sq H3 e3, rfl, rfl, _, rfl, ?_⟩
          cases lo with
          | none => exact if_f rfl (if_f rfl ⟨rfl, e3⟩)
          | some l =>
            obtain ⟨c1, c2⟩ := Spn.canon_low cn hmem rfl
            refine if_t rfl ⟨_, rfl, _, rfl, q, _, 0, _, rfl, rfl, sq H3 e3, rfl, l, 1, rfl, rfl, a, false, s, l - 1, rfl, sl H3 e3, fun H4 e4 => ⟨_, rfl, ?_⟩⟩
            rw [eqL, Spn.lies_false.mpr c2]
            refine if_f rfl ⟨_, rfl, _, rfl, q, _, 0, _, rfl, rfl, sq H4 (e3.trans e4), rfl, a, false, s, l, rfl, sl H4 (e3.trans e4), fun H5 e5 => ⟨_, rfl, ?_⟩⟩
            rw [eqL, Spn.lies_iff.mpr c1]
            exact if_f rfl ⟨rfl, (e3.trans e4).trans e5⟩
        · rintro σ H4 ⟨rfl, e4⟩
          -- the third
          refine ⟨fun σ H' => σ = [some (.ref a), some (.ref b), some (vO x2), some (.int (i : Nat)), some (.ref q), x5] ∧ Ex H2 H', ?_, ?_⟩
          · refine ⟨_, rfl, q, _, 1, _, rfl, rfl, sq H4 e4, rfl, rfl, _, rfl, ?_⟩
            cases hi with
            | none => exact if_f rfl (if_f rfl ⟨rfl, e4⟩)
            | some u =>
              obtain ⟨c1, c2⟩ := Spn.canon_high cn hmem rfl
              refine if_t rfl ⟨_, rfl, _, rfl, q, _, 1, _, rfl, rfl, sq H4 e4, rfl, u, 1, rfl, rfl, a, false, s, u + 1, rfl, sl H4 e4, fun H5 e5 => ⟨_, rfl, ?_⟩⟩
              rw [eqL, Spn.lies_false.mpr c2]
              refine if_f rfl ⟨_, rfl, _, rfl, q, _, 1, _, rfl, rfl, sq H5 (e4.trans e5), rfl, a, false, s, u, rfl, sl H5 (e4.trans e5), fun H6 e6 => ⟨_, rfl, ?_⟩⟩
              rw [eqL, Spn.lies_iff.mpr c1]
              exact if_f rfl ⟨rfl, (e4.trans e5).trans e6⟩
          · rintro σ H5 ⟨rfl, e5⟩
            -- the fourth
            refine ⟨fun σ H' => σ = [some (.ref a), some (.ref b), some (vO x2), some (.int (i : Nat)), some (.ref q), x5] ∧ Ex H2 H', ?_, ?_⟩
            · have s5 := sq H5 e5
              refine ⟨_, rfl, q, _, rfl, .inr s5, rfl, ?_⟩
              -- at > 0 and what follows
              have sec : ∀ Qc : Bool → Hp → Prop, Qc false H5 → tAnd (tTest (tOp (rI0 fun i j => V.bl (decide (j < i))) (tVar 3) (tC (V.int 0)))) (tOr (tTest (tOp (fun x y H Q => y = V.non ∧ Q (V.bl (decide (x = V.non))) H) (tVar 2) (tC V.non)))
                  (tTest (tOp (rI0 fun i j => V.bl (decide (j ≤ i))) (tOp (rI0 fun i j => V.int (i + j)) (tVar 2) (tC (V.int 1))) (tOp (rIxT K) (tVar 4) (tC (V.int 0))))))
                  [some (.ref a), some (.ref b), some (vO x2), some (.int (i : Nat)), some (.ref q), x5] H5 Qc := fun Qc hqc => by
                refine ⟨_, rfl, (i : Int), 0, rfl, rfl, _, rfl, if_d (fun hi0 => ?_) fun _ => hqc⟩
                rcases prev with z | ⟨p, h, l, j, e1, e2, e3, e4, e5⟩
                · omega
                · have := hl p j e1 e2
                  rw [e3] at this
                  subst this e4
                  refine ⟨_, rfl, rfl, _, rfl, if_f rfl ⟨_, rfl, h, 1, rfl, rfl, _, rfl, q, _, 0, _, rfl, rfl, s5, rfl, h + 1, l, rfl, rfl, _, rfl, ?_⟩⟩
                  rw [decide_eq_false (by omega : ¬ l ≤ h + 1)]
                  exact hqc
              cases lo with
              | none => exact ⟨by cases hi <;> rfl, _, rfl, if_f rfl (if_f rfl (sec _ (if_f rfl ⟨rfl, e5⟩)))⟩
              | some l =>
                cases hi with
                | none => exact ⟨rfl, _, rfl, if_f rfl (if_f rfl (sec _ (if_f rfl ⟨rfl, e5⟩)))⟩
                | some u =>
                  refine ⟨rfl, _, rfl, if_t rfl ⟨_, rfl, q, _, 0, _, rfl, rfl, s5, rfl, _, rfl, q, _, 1, _, rfl, rfl, s5, rfl, l, u, rfl, rfl, _, rfl, ?_⟩⟩
                  have lu := cn.ok _ hmem l u rfl rfl
                  refine if_d (fun h => ?_) fun _ => sec _ (if_f rfl ⟨rfl, e5⟩)
                  omega
            · rintro σ H6 ⟨rfl, e6⟩
              refine ⟨_, rfl, q, _, 1, _, rfl, rfl, sq H6 e6, rfl, ?_⟩
              refine ⟨_, _, hi, _, rfl, (e02.trans e6), fun p j ej hj => ?_⟩
              have : j = i := by omega
              subst this
              rw [hp] at hj
              cases hj
              rfl
    · rintro σ H1 ⟨x3, x4, x2, x5, rfl, e1, _⟩
      refine ⟨_, rfl, _, rfl, b, ys, rfl, .inl (ex_l e1 hq), fun l nl => ?_⟩
      have e2 : Ex H1 (upd H1 l (.lst ys)) := Ex.new nl
      have hl : upd H1 l (.lst ys) l = some (.lst ys) := upd_same
      generalize upd H1 l (.lst ys) = H2 at e2 hl ⊢
      have e02 := e1.trans e2
      have l1 := sts_len hdx
      have l2 := sts_len hd
      refine ⟨a, l, xs, ys, rfl, rfl, e02 _ _ ha, hl, by rw [sizeLine_eq]; omega, fun c nc => ?_⟩
      have e3 : Ex H2 (upd H2 c (.lst (xs ++ ys))) := Ex.new nc
      have hc : upd H2 c (.lst (xs ++ ys)) c = some (.lst (xs ++ ys)) := upd_same
      generalize upd H2 c (.lst (xs ++ ys)) = H3 at e3 hc ⊢
      have e03 := e02.trans e3
      have hsr : StsB false K H3 c (s ++ r) := ⟨_, SqL.of hc, by rw [List.map_append]; exact (hdx.to e03).app (hd.to e03)⟩
      refine ⟨c, false, s ++ r, rfl, hsr, by rw [List.length_append]; omega, fun n H4 e4 hn => ?_⟩
      refine ⟨n, rfl, ⟨_, SqL.of hn⟩, ?_⟩
      refine for_list (xs := (Spn.endsOf (s ++ r)).map V.int) (fun i σ H' => ∃ x5, σ = [some (.ref a), some (.ref b), some (vO x2), x3, x4, x5] ∧ Ex H4 H') ?_ (fun i σ H' _ z => ?_) ?_ ?_
      · exact ⟨_, rfl, Ex.refl _⟩
      · obtain ⟨_, _, e⟩ := z
        exact SqL.of (e _ _ hn)
      · rintro i x σ H5 hx ⟨x5, rfl, e5⟩
        obtain ⟨z, rfl⟩ : ∃ z, x = V.int z := by
          rw [List.getElem?_map] at hx
          obtain ⟨z, _, e⟩ := Option.map_eq_some_iff.mp hx
          exact ⟨z, e.symm⟩
        have e05 := (e03.trans e4).trans e5
        refine ⟨_, rfl, _, rfl, a, false, s, z, rfl, hsx.to e05, fun H6 e6 => ?_⟩
        refine ⟨_, rfl, _, rfl, b, false, r, z, rfl, hsy.to (e05.trans e6), fun H7 e7 => ⟨rfl, _, rfl, ?_⟩⟩
        rw [eqL]
        exact if_nd (fun h => absurd rfl h) fun _ => ⟨_, rfl, (e5.trans e6).trans e7⟩
      · rintro σ H5 ⟨x5, rfl, e5⟩
        exact k H5 ((e03.trans e4).trans e5)
end
end K12

set_option Elab.async false
set_option linter.all false
set_option maxRecDepth 100000
set_option maxHeartbeats 4000000
namespace K12
open PySem PySem.Spec PyProof.Rows L2 Evl Gx RZ
abbrev s_l_alike : Stmt := topS 25
theorem sc_l_alike : FnScope ["_law_found", "_law_due"] ["_law_found", "_law_due"] (defScope s_l_alike) := ⟨rfl, rfl, rfl, by decide +kernel, rfl, by decide +kernel, by decide +kernel⟩
def spAlike (K : PySem.W.Frag) : Sp := fun vs H Q _ => ∃ (x y : V) (d : PyData), vs = [x, y] ∧ Dp K H x d ∧ Dp K H y d ∧
  SeqAt.shaped d = true ∧ d.showable = true ∧ wide d ≤ 10000000 ∧ Q (.bl true) H
section
variable {P : Program} {w : World} {K : PySem.W.Frag} {mg : Str → Option Value} {base : Heap} {C fI f_l_take f_l_mixed g_or g_and g_sub g_inv g_len g_in g_eq : Addr} {fd_l_take fd_l_mixed : FuncData}
theorem ok_alike {f : Addr} {fd : FuncData} (D : Def K mg "_law_alike" s_l_alike f fd ["_law_found", "_law_due"]) (bi : Bi mg) :
    FnQ P w K mg base CX0 1 f fd ["_law_found", "_law_due"] (spAlike K) := by
  refine fnq_ok D.fn sc_l_alike (fun vs H Q E h => ?_) (fun cdv A outer s0 H vs Q E hr qu h => ?_)
  · obtain ⟨x, y, d, rfl, _⟩ := h
    rfl
  · obtain ⟨x, y, d, rfl, hx, hy, h1, h2, h3, k⟩ := h
    have hu64 := hr.units
    have hu2 : (A.deeper (envOfC "_law_alike" (defScope s_l_alike) s0.heap.objs.size f cdv)).units + 200 < cLine := by have := hr.un; omega
    refine ⟨_, (pss_one (ps_ret (pe_and (pe_cmpR (op_eqD hu64) (pv 0) (pv 1) (nomark _)) (pe_one (pe_cmpR op_eq (pe_callB (call_repD qu hu2) (by rfl) bi.repr bt_repr (pa_cons (pv 0) pa_nil)) (pe_callB (call_repD qu hu2) (by rfl) bi.repr bt_repr (pa_cons (pv 1) pa_nil)) (nomark _)))))), ?_⟩
    have dd : d.hasDict = false := PyData.hasDict_of_canLay d (SeqAt.canLay_of_shaped h1)
    have dp : d.depth ≤ 100 := Nat.le_trans (SeqAt.depth_of_shaped h1) (by decide)
    refine ⟨_, rfl, _, rfl, d, d, hx, hy, h1, h1, _, rfl, ?_⟩
    rw [SeqAt.eqv_refl d (SeqAt.canLay_of_shaped h1)]
    refine iteT ⟨_, rfl, x, d, rfl, hx, h2, dd, dp, h3, _, rfl, y, d, rfl, hy, h2, dd, dp, h3, rfl, ?_⟩
    rw [decide_eq_true rfl]
    exact k
end
end K12

/-! iter(t) of a tuple that is told by a def; an own __iter__ that tells such a one, walked -/
set_option Elab.async false
set_option linter.all false
set_option maxRecDepth 100000
set_option maxHeartbeats 4000000
namespace Gx
open PySem PySem.Spec PyProof.Rows L2 Evl
/-- an iterator at it that stands before the tuple at t -/
def ItT (t it : Addr) : HO := .ext fun h => h.IsTupleIter it t 0
theorem itT_ok {P : Program} {w : World} {H : Hp} {h : Heap} {t it : Addr} (hi : h.IsTupleIter it t 0) : ObjOk P w H h it (ItT t it) := by
  obtain ⟨o, ho, r⟩ := id hi
  exact ⟨hi, ⟨o, ho⟩, fun h1 h2 q k => q.at fun o e => k o e⟩
theorem call_iter_tuple {prog : Program} {w : World} {A : Around} {E : Value → Shared → Prop} {s : Shared} {t : Addr} {items : Array Value} {Q : Value → Shared → Prop} (ht : s.heap.IsTuple t items)
    (h : Q (.ref s.heap.objs.size) { s with heap := s.heap.push { cls := .type "tuple_iterator", data := .fields #[.ref t, .int 0 0] } }) : wpAny (model prog w) A (call (.builtin "iter") [.ref t]) Q E s := by
  refine Calls.call_function_entry ?kind ?plain PySem.W.kdk_entry_iter
    (PySem.W.kdk_args_iter _) ?go
  case kind => decide +kernel
  case plain => decide +kernel
  case go =>
    unfold Builtin.«iter»
    have walk := wpAny_pyIter_tuple (prog := prog) (w := w) (A := A.in1) (E := E) (Q := fun v s' => wpAny (model prog w) A.in1 (ret v) (fun fin s2 => ∃ u, fin = .done (.ret u) ∧ Q u s2) E s') ht (wpAny_pure ⟨_, rfl, h⟩)
    exact wpAny_bind (m := someArgs "iter" 1 2 _) (wpAny_of_eq (a := [.ref t]) (by first | rfl | kernel_rfl!) (wpAny_bind walk))
/-- iter(t): it stands behind all that is tracked -/
def rIterT (K : PySem.W.Frag) : List V → Hp → VK → Prop := fun xs H Q => ∃ (t : Addr) (zs : List V), xs = [.ref t] ∧ SqT K H t zs ∧ ∀ it, H it = none → (∀ b, H b ≠ none → b < it) → Q (.ref it) (upd H it (ItT t it))
theorem call_iterT {X : Cx} : CallR X (.builtin "iter") (rIterT X.K) := by
  intro pins s σ H xs us Q I r h
  obtain ⟨t, zs, rfl, hq, q⟩ := h
  obtain ⟨u, rfl, ru⟩ := vals1 r
  cases ru
  obtain ⟨its, rv, pl, hz⟩ := I.tuple hq
  have young : ∀ b, H b ≠ none → b < s.heap.objs.size := fun b hb => by
    cases e : H b with
    | none => exact absurd e hb
    | some o => exact I.hok.lt e
  exact call_iter_tuple pl ⟨.ref s.heap.objs.size, _, I.laid (t' := s.toks) (fun b u e => Heap.get?_push_of_some _ e) (Nat.le_refl _) (itT_ok ⟨_, Heap.get?_push_size _ rfl, rfl, rfl⟩), rfl, q _ (I.hok.fresh (Nat.le_refl _)) young⟩
/-- an object with an own __iter__ that tells a tuple's iterator, walked; y: something tracked that the def itself has made -/
def iOwnT (K : PySem.W.Frag) (C : Addr) (n0 : Nat) (sp : Sp) (E : XK) (te : TE) : TI := fun σ H R => te σ H fun v H1 => ∃ (p dx : Addr) (fs : List (Str × V)), v = .ref p ∧ H1 p = some (.ins C dx fs) ∧
  sp [.ref p] H1 (fun z H2 => ∃ it t, z = .ref it ∧ n0 ≤ it ∧ H2 it = some (ItT t it) ∧ R (Itt K t) (ItX.dropH H2 it)) E
theorem pi_ownT {X : Cx} {tg e : Expr} {te : TE} {C g : Addr} {CX : CXT} {n : Nat} {sp : Sp} {E : XK} (hs : PySem.W.findIn X.K (.ref C) "__iter__" = some (some (.ref g))) (hf : PySem.W.isFn X.K (.ref g) = true)
    (F : FnR X.prog X.w X.K X.mg X.base CX n g sp) (hr : Room n X.A) (hx : Passes CX X E) (he : PE X e te) : PI X tg e (iOwnT X.K C X.s_0.heap.objs.size sp E te) := by
  refine ⟨fun pins s σ H R I h => thn (he.run pins s σ H _ I h) fun v s1 ⟨x, H1, I1, rx, p, dx, fs, ex, hp, q⟩ => ?_⟩
  subst ex
  cases rx
  obtain ⟨mA, oa, _⟩ := L2.ins_get I1.hok hp
  obtain ⟨od, J, _⟩ := oa.look
  obtain ⟨m, fr⟩ := I1.fr
  refine PySem.W.owit_iter fr I1.ok.mod.kin J hs hf ?_
  refine wpAny_mono (wpAny_call (L2.run_fnR F hr hx I1 (.cons (show RelV (.ref p) (.ref p) from rfl) .nil) q)) (fun u s2 hq => ?_) (fun _ _ z => z)
  obtain ⟨z, H2, I2, rz, it, t, ez, young, hit, hR⟩ := hq
  subst ez
  cases rz
  have st : s2.heap.IsTupleIter it t 0 := (show ObjOk X.prog X.w H2 s2.heap it (ItT t it) from I2.hok it _ hit).1
  unfold PySem.W.OwitIt
  refine wpAny_specialOf (name := Str.ofString "__next__") st.typeIs PySem.F.slot_tuple_iterator_next.lookup ?_
  refine ⟨it, [it], _, _, _, rfl, ItX.inv_drop I2 hit, turn_tuple t it, st, fun b hb => ?_, hR⟩
  rw [List.mem_singleton] at hb
  subst hb
  exact ItX.inv_fp I2 hit young
end Gx

/-! what a def makes itself stands behind its start: a display, an object -/
set_option Elab.async false
set_option linter.all false
set_option maxRecDepth 100000
set_option maxHeartbeats 4000000
namespace Gx
open PySem PySem.Spec PyProof.Rows L2 Evl
def tLstY (n0 : Nat) (t : TA) : TE := fun σ H Q => t σ H fun xs G => xs.length ≤ sizeLine ∧ ∀ p, G p = none → n0 ≤ p → Q (.ref p) (upd G p (.lst xs))
theorem pe_lstY {X : Cx} {es : List Expr} {pos : Pos} {t : TA} (args : PA X es t) : PE X (.List es pos) (tLstY X.s_0.heap.objs.size t) := by
  constructor
  intro pins s σ H Q inv wish
  apply wpAny_List_spliced
  refine thn (args.run pos pins s σ H _ inv wish) ?_
  rintro us s1 ⟨xs, G, inv1, rel, short, end_⟩
  have same := rel.length
  refine ⟨by omega, .ref s1.heap.objs.size, upd G s1.heap.objs.size (.lst xs), inv1.laid (o := .lst xs) (t' := s1.toks) (fun _ _ old => Heap.get?_push_of_some _ old) (Nat.le_refl _) ⟨short, us, 0, rel, Heap.get?_push_size _ rfl⟩, rfl, ?_⟩
  exact end_ _ (inv1.hok.fresh (Nat.le_refl _)) inv1.sz
def tMakeY (n0 : Nat) (C : Addr) (sp : Sp) (dvs : List V) (E : XK) (t : TA) : TE := fun σ H Q => t σ H fun vs G => ∀ o d, G o = none → G d = none → d ≠ o → n0 ≤ o →
  sp (.ref o :: (vs ++ dvs)) (upd (upd G d (.own o)) o (.ins C d [])) (fun v G' => v = .non ∧ Q (.ref o) G') E
section
variable {X : Cx} {CX : CXT} {k : Nat} {f C : Addr} {fd : FuncData} {ps : List Str} {sp : Sp} {E : XK} {dvs : List V} {ds : List Value}
/-- a new object: the wish is taken at the very place where it will stand -/
theorem makeY {pins : List (Addr × Obj)} {σ : L2.St} {G : Hp} {s : Shared} {Q : VK} {us : List Value} {vs : List V} (mk : Mk X.K C f) (def_ : FnOk X.prog X.w X.K X.mg X.base CX k f fd ps sp) (room : Room (k + 1) X.A)
    (bnd : Binds X.K fd ps ds) (dfl : Vals dvs ds) (out : Passes CX X E) (inv : L2.Inv X pins σ G s) (rel : Vals vs us)
    (wish : sp (.ref (s.heap.objs.size + 1) :: (vs ++ dvs)) (upd (upd G s.heap.objs.size (.own (s.heap.objs.size + 1))) (s.heap.objs.size + 1) (.ins C s.heap.objs.size [])) (fun v G' => v = .non ∧ Q (.ref (s.heap.objs.size + 1)) G') E) :
    wpAny (model X.prog X.w) X.A (call (.ref C) us) (EP X pins σ Q) X.xe s := by
  have made := L2.Inv.made (C := C) inv
  have all : Vals (.ref (s.heap.objs.size + 1) :: (vs ++ dvs)) (Value.ref (s.heap.objs.size + 1) :: (us ++ ds)) := .cons rfl (rel.append dfl)
  have len : (Value.ref (s.heap.objs.size + 1) :: us ++ ds).length = ps.length := (all.length.symm.trans (def_.len _ _ _ _ wish))
  have run := def_.run _ X.stack _ _ ⟨Value.ref (s.heap.objs.size + 1) :: us, []⟩ _ _ _ E (room.make C us []) (made.env0.make C us []) (bnd _ (Value.ref (s.heap.objs.size + 1) :: us) made.kIn len) all wish
  apply wpAny_call
  refine make_map (f := f) inv.kIn mk.makes mk.init (beq_iff_eq.mp mk.fn) (codeAny_mono run ?_)
  rintro (e | fl) s' told
  · exact out pins σ _ _ e s' made told
  · cases fl <;> try exact told.elim
    obtain ⟨v, G', inv', rv, nothing, last⟩ := made.after told
    subst nothing
    exact ⟨rv, .ref (s.heap.objs.size + 1), G', inv', rfl, last⟩
theorem pe_makeY {x : Str} {p pos : Pos} {e : Expr} {es : List Expr} {t : TA} (mk : Mk X.K C f) (def_ : FnOk X.prog X.w X.K X.mg X.base CX k f fd ps sp) (room : Room (k + 1) X.A) (gl : Gl X x) (at_ : X.mg x = some (.ref C))
    (bnd : Binds X.K fd ps ds) (dfl : Vals dvs ds) (out : Passes CX X E) (args : PA X (e :: es) t) (nd : (x == ("__debug__" : Str)) = false := by decide)
    (flat : starEach (e :: es) X.env = (false, eval e X.env) :: starEach es X.env := by rfl) (plain : (backTo pos (starEach es X.env)).any (·.1) = false := by rfl) :
    PE X (.Call (.Name x p) (e :: es) [] pos) (tMakeY X.s_0.heap.objs.size C sp dvs E t) := by
  constructor
  intro pins s σ H Q inv wish
  apply wpAny_Call_Name_kw
  refine ld_glob inv gl at_ ?_ nd
  refine PySem.W.callWith_K (h₀ := X.base) inv.ok.mod.kin mk.kp (thn (args.run pos pins s σ H _ inv wish) ?_) flat plain
  rintro us s1 ⟨vs, G, inv1, rel, end_⟩
  refine ⟨inv1.kIn, makeY mk def_ room bnd dfl out inv1 rel ?_⟩
  exact end_ _ _ (inv1.hok.fresh (Nat.le_succ _)) (inv1.hok.fresh (Nat.le_refl _)) (Nat.ne_of_lt (Nat.lt_succ_self _)) (Nat.le_succ_of_le inv1.sz)
end
end Gx

set_option Elab.async false
set_option linter.all false
set_option maxRecDepth 100000
set_option maxHeartbeats 4000000
namespace K12
open PySem PySem.Spec PyProof.Rows L2 Evl Gx RZ
abbrev s_Spans___iter : Stmt := inClass (topS 19) 7
theorem sc_Spans___iter : FnScope ["self"] ["self"] (defScope s_Spans___iter) := ⟨rfl, rfl, rfl, by decide +kernel, rfl, by decide +kernel, by decide +kernel⟩
def spIterS (K : PySem.W.Frag) (C : Addr) : Sp := fun vs H Q _ => ∃ (p : Addr) (s : List Sx) (n : Nat), vs = [.ref p] ∧ SpAt K C H p s n ∧
  ∀ it t xs, H it = none → (∀ b, H b ≠ none → b < it) → SqT K H t xs → DpAll K H xs (s.map dSt) → Q (.ref it) (upd H it (ItT t it))
section
variable {P : Program} {w : World} {K : PySem.W.Frag} {mg : Str → Option Value} {base : Heap} {C fI : Addr}
theorem ok_iter {f : Addr} {fd : FuncData} (D : MDef K C "__iter__" "Spans.__iter__" s_Spans___iter f fd ["self"]) (bi : Bi mg) (T_Spans : SpansT K mg C fI) (mg_iter : mg "iter" = none) : FnOk P w K mg base CX0 1 f fd ["self"] (spIterS K C) := by
  refine D.fn.ok sc_Spans___iter (fun vs H Q E h => ?_) (fun cdv A outer s0 H vs Q E hr h => ?_)
  · obtain ⟨p, s, n, rfl, _⟩ := h
    rfl
  · obtain ⟨p, s, n, rfl, ⟨⟨dx, t, hp, xs, hq, hd⟩, cn, hz⟩, k⟩ := h
    refine ⟨_, (pss_one (ps_ret (pe_callB call_iterT (by rfl) mg_iter PyProof.Rows.boot_iter (pa_cons (pe_fld (pv 0) rfl) pa_nil)))), ?_⟩
    exact ⟨_, rfl, p, C, dx, _, _, rfl, hp, T_Spans.cl, T_Spans.ns, sp_look, t, xs, rfl, hq, fun it n1 y => k it t xs n1 y hq hd⟩
/-- a walk over a Spans by its own __iter__ -/
theorem use_iter {H : Hp} {p : Addr} {s : List Sx} {n n0 : Nat} {R : It → Hp → Prop} (h : SpAt K C H p s n) (y : Addr) (hy : H y ≠ none) (young : n0 ≤ y)
    (k : ∀ it t xs, H it = none → SqT K H t xs → DpAll K H xs (s.map dSt) → R (Itt K t) H) :
    ∃ (q dx : Addr) (fs : List (Str × V)), V.ref p = .ref q ∧ H q = some (.ins C dx fs) ∧ spIterS K C [.ref q] H (fun z H2 => ∃ it t, z = .ref it ∧ n0 ≤ it ∧ H2 it = some (ItT t it) ∧ R (Itt K t) (ItX.dropH H2 it)) E0 := by
  obtain ⟨⟨dx, t, hp, ht⟩, hr⟩ := id h
  refine ⟨p, dx, _, rfl, hp, p, s, n, rfl, h, fun it t2 xs n1 above hq hd => ⟨it, t2, rfl, ?_, upd_same, ?_⟩⟩
  · exact Nat.le_of_lt (Nat.lt_of_le_of_lt young (above y hy))
  · rw [ItX.dropH_upd n1]
    exact k it t2 xs n1 hq hd
end
end K12

set_option Elab.async false
set_option linter.all false
/-! What steps lead into stretches, and what they err at: pure. -/
namespace Gx.Spn
open Gx
def mirr (p : Sx) : Sx := (p.2.map (fun h => -h), p.1.map (fun l => -l))
def plusP (k : Int) (p : Sx) : Sx := (p.1.map (fun l => l - k), p.2.map (fun h => h - k))
def timesP (k : Int) (p : Sx) : Sx := (p.1.map (fun l => -((-l).fdiv k)), p.2.map (fun h => h.fdiv k))
def intoP (d : Int) (p : Sx) : Sx := (p.1.map (fun l => l * d), p.2.map (fun h => h * d + d - 1))
def timesL (k : Int) (s : List Sx) : List Sx := if k < 0 then ((s.map mirr).map (timesP (-k))).filter stands else (s.map (timesP k)).filter stands
def overQ (k : Int) (p : Sx) : Sx := (some (match p.2 with
  | none => 1
  | some h => k.fdiv (h + 1) + 1), match p.1 with
  | none => none
  | some l => if l ≤ 0 then none else some (k.fdiv l))
def overA (k : Int) (p : Sx) : Option Sx := if neg p.2 = true then none else if stands (overQ k p) = true then some (overQ k p) else none
def overL (k : Int) (s : List Sx) : List Sx := if k < 0 then ((s.map mirr).map (plusP 1)).filterMap (overA (-1 - k)) else s.filterMap (overA k)
def overS (k : Int) (s : List Sx) : List Sx := overL k s ++ (overL (-k) s).map mirr
def foundS (ps : List (Int × Int)) (s : List Sx) : List Sx := (ps.filter (fun e => holds (joined s) e.2)).map fun e => (some e.1, some e.1)
theorem map_has {f : Sx → Sx} {g : Int → Int} (h : ∀ p x, has (f p) x ↔ has p (g x)) (s : List Sx) (x : Int) : hasL (s.map f) x ↔ hasL s (g x) := by
  constructor
  · rintro ⟨q, hq, hx⟩
    obtain ⟨p, hp, rfl⟩ := List.mem_map.mp hq
    exact ⟨p, hp, (h p x).mp hx⟩
  · rintro ⟨p, hp, hx⟩
    exact ⟨f p, List.mem_map.mpr ⟨p, hp, rfl⟩, (h p x).mpr hx⟩
theorem mirr_has (p : Sx) (x : Int) : has (mirr p) x ↔ has p (-x) := by
  obtain ⟨a, b⟩ := p
  unfold has mirr
  cases a <;> cases b <;> simp <;> omega
theorem plus_has (k : Int) (p : Sx) (x : Int) : has (plusP k p) x ↔ has p (x + k) := by
  obtain ⟨a, b⟩ := p
  unfold has plusP
  cases a <;> cases b <;> simp <;> omega
theorem fd {a b : Int} (h : 0 < b) : a.fdiv b = a / b := Int.fdiv_eq_ediv_of_nonneg a (by omega)
theorem times_has {k : Int} (hk : 0 < k) (p : Sx) (x : Int) : has (timesP k p) x ↔ has p (x * k) := by
  have low : ∀ l : Int, -((-l).fdiv k) ≤ x ↔ l ≤ x * k := fun l => by
    have := Int.le_ediv_iff_mul_le (a := -x) (b := -l) hk
    rw [fd hk]
    rw [Int.neg_mul] at this
    omega
  have high : ∀ h : Int, x ≤ h.fdiv k ↔ x * k ≤ h := fun h => by
    rw [fd hk]; exact Int.le_ediv_iff_mul_le hk
  obtain ⟨a, b⟩ := p
  unfold has timesP
  cases a <;> cases b <;> simp [low, high]
theorem into_has {d : Int} (hd : 0 < d) (p : Sx) (x : Int) : has (intoP d p) x ↔ has p (x.fdiv d) := by
  have low : ∀ l : Int, l * d ≤ x ↔ l ≤ x.fdiv d := fun l => by
    rw [fd hd]; exact (Int.le_ediv_iff_mul_le hd).symm
  have high : ∀ h : Int, x ≤ h * d + d - 1 ↔ x.fdiv d ≤ h := fun h => by
    rw [fd hd]
    have := Int.ediv_lt_iff_lt_mul (a := x) (b := h + 1) hd
    rw [Int.add_mul, Int.one_mul] at this
    omega
  obtain ⟨a, b⟩ := p
  unfold has intoP
  cases a <;> cases b <;> simp [low, high]
theorem has_ok {p : Sx} {x : Int} (h : has p x) : Spn.ok p := fun l u e1 e2 => Int.le_trans (h.1 l e1) (h.2 u e2)
theorem filter_has (s : List Sx) (x : Int) : hasL (s.filter stands) x ↔ hasL s x := by
  constructor
  · rintro ⟨p, hp, hx⟩; exact ⟨p, (List.mem_filter.mp hp).1, hx⟩
  · rintro ⟨p, hp, hx⟩; exact ⟨p, List.mem_filter.mpr ⟨hp, stands_iff.mpr (has_ok hx)⟩, hx⟩
theorem timesL_has {k : Int} (h0 : k ≠ 0) (s : List Sx) (x : Int) : hasL (timesL k s) x ↔ hasL s (x * k) := by
  unfold timesL
  by_cases hk : k < 0
  · rw [if_pos hk, filter_has, map_has (times_has (k := -k) (by omega)), map_has mirr_has]
    rw [show -(x * -k) = x * k by rw [Int.mul_neg, Int.neg_neg]]
  · rw [if_neg hk, filter_has, map_has (times_has (k := k) (by omega))]
theorem overA_has {k : Int} (hk : 0 ≤ k) (p : Sx) (x : Int) : (∃ q, overA k p = some q ∧ has q x) ↔ 0 < x ∧ has p (k.fdiv x) := by
  have key : neg p.2 = false → (has (overQ k p) x ↔ 0 < x ∧ has p (k.fdiv x)) := by
    intro hn
    obtain ⟨a, b⟩ := p
    have pos1 : ∀ h : Int, 0 ≤ h → 0 ≤ k.fdiv (h + 1) := fun h h0 => by rw [fd (by omega)]; exact Int.ediv_nonneg hk (by omega)
    have high : ∀ h : Int, 0 ≤ h → 0 < x → (k.fdiv (h + 1) + 1 ≤ x ↔ k.fdiv x ≤ h) := fun h h0 x0 => by
      rw [fd x0, fd (by omega : 0 < h + 1)]
      have e1 := Int.ediv_lt_iff_lt_mul (a := k) (b := x) (show 0 < h + 1 by omega)
      have e2 := Int.ediv_lt_iff_lt_mul (a := k) (b := h + 1) x0
      rw [Int.mul_comm] at e2
      omega
    have low : ∀ l : Int, 0 < l → 0 < x → (x ≤ k.fdiv l ↔ l ≤ k.fdiv x) := fun l l0 x0 => by
      rw [fd x0, fd l0, Int.le_ediv_iff_mul_le l0, Int.le_ediv_iff_mul_le x0, Int.mul_comm]
    have kx : 0 < x → 0 ≤ k.fdiv x := fun x0 => by rw [fd x0]; exact Int.ediv_nonneg hk (by omega)
    have A : (∀ l, (overQ k (a, b)).2 = some l → x ≤ l) ↔ (0 < x → ∀ l, a = some l → l ≤ k.fdiv x) ∨ ¬ 0 < x := by
      unfold overQ
      cases a with
      | none => simp
      | some l =>
        simp only
        by_cases hl : l ≤ 0
        · rw [if_pos hl]
          simp
          by_cases x0 : 0 < x
          · have := kx x0; refine .inl fun _ => by omega
          · exact .inr (by omega)
        · rw [if_neg hl]
          by_cases x0 : 0 < x
          · have := low l (by omega) x0
            constructor
            · intro h; exact .inl fun _ l' e => by cases e; exact this.mp (h _ rfl)
            · rintro (h | h)
              · intro q e; cases e; exact this.mpr (h x0 _ rfl)
              · exact absurd x0 h
          · constructor
            · intro _; exact .inr x0
            · intro _ q e
              cases e
              have : 0 ≤ k.fdiv l := by rw [fd (by omega)]; exact Int.ediv_nonneg hk (by omega)
              omega
    have B : (∀ l, (overQ k (a, b)).1 = some l → l ≤ x) ↔ 0 < x ∧ ∀ h, b = some h → k.fdiv x ≤ h := by
      unfold overQ
      cases b with
      | none => simp; omega
      | some h =>
        have h0 : 0 ≤ h := by unfold neg at hn; simpa using hn
        have p1 := pos1 h h0
        constructor
        · intro q
          have q1 := q _ rfl
          simp only at q1
          have x0 : 0 < x := by omega
          exact ⟨x0, fun h' e => by cases e; exact (high h h0 x0).mp q1⟩
        · rintro ⟨x0, q⟩ l e
          cases e
          exact (high h h0 x0).mpr (q _ rfl)
    unfold has
    rw [B, A]
    constructor
    · rintro ⟨⟨x0, h1⟩, h2⟩
      exact ⟨x0, h2.elim (fun g => g x0) fun g => absurd x0 g, h1⟩
    · rintro ⟨x0, h1, h2⟩
      exact ⟨⟨x0, h2⟩, .inl fun _ => h1⟩
  unfold overA
  cases hn : neg p.2 with
  | true =>
    rw [if_pos rfl]
    constructor
    · rintro ⟨q, e, _⟩; cases e
    · rintro ⟨x0, h⟩
      obtain ⟨a, b⟩ := p
      cases b with
      | none => simp [neg] at hn
      | some u =>
        have u0 : u < 0 := by simpa [neg] using hn
        have := h.2 u rfl
        have : 0 ≤ k.fdiv x := by rw [fd x0]; exact Int.ediv_nonneg hk (by omega)
        omega
  | false =>
    rw [if_neg (by simp), ← key hn]
    cases hs : stands (overQ k p) with
    | true => simp
    | false =>
      simp
      intro h
      have := stands_iff.mpr (has_ok h)
      rw [hs] at this
      cases this
theorem fm_has (k : Int) (hk : 0 ≤ k) (s : List Sx) (x : Int) : hasL (s.filterMap (overA k)) x ↔ 0 < x ∧ hasL s (k.fdiv x) := by
  constructor
  · rintro ⟨q, hq, hx⟩
    obtain ⟨p, hp, e⟩ := List.mem_filterMap.mp hq
    obtain ⟨h1, h2⟩ := (overA_has hk p x).mp ⟨q, e, hx⟩
    exact ⟨h1, p, hp, h2⟩
  · rintro ⟨h1, p, hp, h2⟩
    obtain ⟨q, e, hx⟩ := (overA_has hk p x).mpr ⟨h1, h2⟩
    exact ⟨q, List.mem_filterMap.mpr ⟨p, hp, e⟩, hx⟩
theorem over_neg {k x : Int} (x0 : 0 < x) : k.fdiv x = -((-1 - k).fdiv x + 1) := by
  rw [fd x0, fd x0]
  have h1 := Int.mul_ediv_self_le (x := -1 - k) (k := x) (by omega)
  have h2 := Int.lt_mul_ediv_self_add (x := -1 - k) x0
  generalize (-1 - k) / x = q at *
  have a := Int.le_ediv_iff_mul_le (a := -(q + 1)) (b := k) x0
  have b := Int.ediv_lt_iff_lt_mul (a := k) (b := -q) x0
  rw [Int.neg_mul, Int.add_mul, Int.one_mul, Int.mul_comm q x] at a
  rw [Int.neg_mul, Int.mul_comm q x] at b
  generalize x * q = t at *
  omega
theorem overL_has (k : Int) (s : List Sx) (x : Int) : hasL (overL k s) x ↔ 0 < x ∧ hasL s (k.fdiv x) := by
  unfold overL
  by_cases hk : k < 0
  · rw [if_pos hk, fm_has _ (by omega), map_has (plus_has 1), map_has mirr_has]
    constructor
    · rintro ⟨x0, h⟩; rw [over_neg x0]; exact ⟨x0, h⟩
    · rintro ⟨x0, h⟩; rw [over_neg x0] at h; exact ⟨x0, h⟩
  · rw [if_neg hk, fm_has _ (by omega)]
theorem overS_has (k : Int) (s : List Sx) (x : Int) : hasL (overS k s) x ↔ x ≠ 0 ∧ hasL s (k.fdiv x) := by
  unfold overS
  rw [hasL_append, map_has mirr_has, overL_has, overL_has, Int.neg_fdiv_neg]
  constructor
  · rintro (⟨h1, h2⟩ | ⟨h1, h2⟩)
    · exact ⟨by omega, h2⟩
    · exact ⟨by omega, h2⟩
  · rintro ⟨h1, h2⟩
    by_cases h : 0 < x
    · exact .inl ⟨h, h2⟩
    · exact .inr ⟨by omega, h2⟩
theorem look_of {ps : List (Int × Int)} (nd : (ps.map (·.1)).Nodup) {n m : Int} (h : (n, m) ∈ ps) : look ps n = some m := by
  induction ps with
  | nil => cases h
  | cons p r ih =>
    obtain ⟨a, b⟩ := p
    rw [List.map_cons, List.nodup_cons] at nd
    unfold look
    rw [List.find?_cons]
    by_cases e : a = n
    · rw [show decide (a = n) = true from decide_eq_true e]
      rcases List.mem_cons.mp h with g | g
      · injection g with g1 g2; simp [g2]
      · exact absurd (List.mem_map.mpr ⟨(n, m), g, rfl⟩) (by have := nd.1; rw [e] at this; exact this)
    · rw [show decide (a = n) = false from decide_eq_false e]
      rcases List.mem_cons.mp h with g | g
      · injection g with g1 g2; exact absurd g1.symm e
      · exact ih nd.2 g
theorem foundS_has {ps : List (Int × Int)} (nd : (ps.map (·.1)).Nodup) {s : List Sx} (hs : ∀ p ∈ s, Spn.ok p) (x : Int) : hasL (foundS ps s) x ↔ ∃ y, look ps x = some y ∧ hasL s y := by
  obtain ⟨cj, mj⟩ := joined_ok hs
  unfold foundS
  constructor
  · rintro ⟨q, hq, hx⟩
    obtain ⟨e, he, rfl⟩ := List.mem_map.mp hq
    obtain ⟨h1, h2⟩ := List.mem_filter.mp he
    have a1 : e.1 ≤ x := hx.1 _ rfl
    have a2 : x ≤ e.1 := hx.2 _ rfl
    have ex : e.1 = x := by omega
    refine ⟨e.2, look_of nd (by rw [← ex]; exact h1), ?_⟩
    rw [holds_iff cj, mj] at h2
    exact h2
  · rintro ⟨y, h1, h2⟩
    refine ⟨(some x, some x), List.mem_map.mpr ⟨(x, y), List.mem_filter.mpr ⟨look_mem h1, ?_⟩, rfl⟩, ⟨fun l e => (by cases e; exact Int.le_refl _), fun l e => (by cases e; exact Int.le_refl _)⟩⟩
    rw [holds_iff cj, mj]
    exact h2
def preS : Stp → List Sx → List Sx
  | .plus k, s => s.map (plusP k)
  | .times k, s => timesL k s
  | .into d, s => s.map (intoP d)
  | .over k, s => overS k s
  | .found ps, s => foundS ps s
theorem preS_has {st : Stp} (ho : st.ok) {s : List Sx} (hs : ∀ p ∈ s, Spn.ok p) (x : Int) : hasL (preS st s) x ↔ ∃ y, lead st x = some y ∧ hasL s y := by
  have one : ∀ y : Int, hasL s y ↔ ∃ z, some y = some z ∧ hasL s z := fun y => ⟨fun h => ⟨y, rfl, h⟩, fun ⟨z, e, h⟩ => by cases e; exact h⟩
  cases st with
  | plus k => exact (map_has (plus_has k) s x).trans (one _)
  | times k => exact (timesL_has ho.2 s x).trans (one _)
  | into d => exact (map_has (into_has ho.1) s x).trans (one _)
  | over k =>
    refine (overS_has k s x).trans ?_
    show _ ↔ ∃ y, (if x = 0 then none else some (k.fdiv x)) = some y ∧ hasL s y
    by_cases h : x = 0
    · simp [h]
    · rw [if_neg h]
      exact ⟨fun g => ⟨_, rfl, g.2⟩, fun ⟨y, e, g⟩ => by cases e; exact ⟨h, g⟩⟩
  | found ps => exact foundS_has ho.1 hs x
def errGo : Option Int → List (Int × Int) → List Sx
  | lo, [] => [(lo, none)]
  | lo, e :: r => (lo, some (e.1 - 1)) :: errGo (some (e.1 + 1)) r
theorem errGo_has : ∀ {lo : Option Int} {ps : List (Int × Int)}, (ps.map (·.1)).Pairwise (· < ·) → (∀ l, lo = some l → ∀ e ∈ ps, l ≤ e.1) → ∀ x, hasL (errGo lo ps) x ↔ (∀ l, lo = some l → l ≤ x) ∧ ∀ e ∈ ps, e.1 ≠ x
  | lo, [], _, _, x => by
    unfold errGo
    rw [hasL_cons]
    constructor
    · rintro (h | h)
      · exact ⟨h.1, by simp⟩
      · exact absurd h (hasL_nil x)
    · rintro ⟨h, _⟩
      exact .inl ⟨h, fun u e => by cases e⟩
  | lo, e :: r, as, hl, x => by
    rw [List.map_cons, List.pairwise_cons] at as
    have lt : ∀ z ∈ r, e.1 < z.1 := fun z hz => as.1 _ (List.mem_map.mpr ⟨z, hz, rfl⟩)
    have ih := errGo_has (lo := some (e.1 + 1)) as.2 (fun l h z hz => by cases h; have := lt z hz; omega) x
    unfold errGo
    rw [hasL_cons, ih]
    constructor
    · rintro (h | ⟨h1, h2⟩)
      · have h3 : x ≤ e.1 - 1 := h.2 _ rfl
        refine ⟨h.1, fun z hz => ?_⟩
        rcases List.mem_cons.mp hz with g | g
        · subst g; omega
        · have := lt z g; omega
      · have h3 : e.1 + 1 ≤ x := h1 _ rfl
        refine ⟨fun l g => ?_, fun z hz => ?_⟩
        · have := hl l g e (List.mem_cons_self ..); omega
        · rcases List.mem_cons.mp hz with g | g
          · subst g; omega
          · exact h2 z g
    · rintro ⟨h1, h2⟩
      have := h2 e (List.mem_cons_self ..)
      by_cases hx : x < e.1
      · exact .inl ⟨h1, fun u g => by cases g; omega⟩
      · exact .inr ⟨fun l g => by cases g; omega, fun z hz => h2 z (List.mem_cons_of_mem _ hz)⟩
def asc : Stp → Prop
  | .found ps => (ps.map (·.1)).Pairwise (· < ·)
  | _ => True
def errS : Stp → List Sx
  | .over _ => [(some 0, some 0)]
  | .found ps => (errGo none ps).filter stands
  | _ => []
theorem look_none {ps : List (Int × Int)} {n : Int} : look ps n = none ↔ ∀ e ∈ ps, e.1 ≠ n := by
  unfold look
  rw [Option.map_eq_none_iff, List.find?_eq_none]
  simp
theorem errS_has {st : Stp} (ha : asc st) (x : Int) : hasL (errS st) x ↔ lead st x = none := by
  cases st with
  | plus k => exact ⟨fun h => absurd h (hasL_nil x), fun h => by cases h⟩
  | times k => exact ⟨fun h => absurd h (hasL_nil x), fun h => by cases h⟩
  | into k => exact ⟨fun h => absurd h (hasL_nil x), fun h => by cases h⟩
  | over k =>
    show hasL [(some 0, some 0)] x ↔ (if x = 0 then none else some (k.fdiv x)) = none
    rw [hasL_cons]
    by_cases h : x = 0
    · rw [if_pos h]
      exact ⟨fun _ => rfl, fun _ => .inl ⟨fun l e => (by cases e; omega), fun l e => (by cases e; omega)⟩⟩
    · rw [if_neg h]
      constructor
      · rintro (g | g)
        · have a1 : 0 ≤ x := g.1 _ rfl
          have a2 : x ≤ 0 := g.2 _ rfl
          omega
        · exact absurd g (hasL_nil x)
      · intro e; cases e
  | found ps =>
    show hasL ((errGo none ps).filter stands) x ↔ look ps x = none
    rw [filter_has, errGo_has ha (fun l e => by cases e), look_none]
    exact ⟨fun h => h.2, fun h => ⟨fun l e => (by cases e), h⟩⟩
/-! ### whole lists of steps -/
def preAll (ss : List Stp) (s : List Sx) : List Sx := ss.foldr preS s
def errAll : List Stp → List Sx
  | [] => []
  | st :: r => errS st ++ preS st (errAll r)
theorem ok_filter {s : List Sx} : ∀ p ∈ s.filter stands, Spn.ok p := fun p hp => stands_iff.mp (List.mem_filter.mp hp).2
theorem mirr_ok {p : Sx} (h : Spn.ok p) : Spn.ok (mirr p) := fun l u e1 e2 => by
  obtain ⟨a, b⟩ := p
  unfold mirr at *
  cases a <;> cases b <;> simp at e1 e2
  have := h _ _ rfl rfl
  omega
theorem map_ok {f : Sx → Sx} (hf : ∀ p, Spn.ok p → Spn.ok (f p)) {s : List Sx} (h : ∀ p ∈ s, Spn.ok p) : ∀ p ∈ s.map f, Spn.ok p := fun q hq => by
  obtain ⟨p, hp, rfl⟩ := List.mem_map.mp hq
  exact hf p (h p hp)
theorem overA_ok {k : Int} {p q : Sx} (h : overA k p = some q) : Spn.ok q := by
  unfold overA at h
  split at h
  · cases h
  · split at h
    · rename_i hs
      cases h
      exact stands_iff.mp hs
    · cases h
theorem overL_ok (k : Int) (s : List Sx) : ∀ p ∈ overL k s, Spn.ok p := fun q hq => by
  unfold overL at hq
  split at hq <;> (obtain ⟨p, _, e⟩ := List.mem_filterMap.mp hq; exact overA_ok e)
theorem preS_ok {st : Stp} (ho : st.ok) {s : List Sx} (hs : ∀ p ∈ s, Spn.ok p) : ∀ p ∈ preS st s, Spn.ok p := by
  cases st with
  | plus k =>
    refine map_ok (fun p h l u e1 e2 => ?_) hs
    obtain ⟨a, b⟩ := p
    unfold plusP at *
    cases a <;> cases b <;> simp at e1 e2
    have := h _ _ rfl rfl
    omega
  | times k =>
    show ∀ p ∈ timesL k s, Spn.ok p
    unfold timesL
    split <;> exact ok_filter
  | into d =>
    refine map_ok (fun p h l u e1 e2 => ?_) hs
    obtain ⟨a, b⟩ := p
    unfold intoP at *
    cases a <;> cases b <;> simp at e1 e2
    have := h _ _ rfl rfl
    have := Int.mul_le_mul_of_nonneg_right this (show 0 ≤ d from by have := ho.1; omega)
    have := ho.1
    omega
  | over k =>
    intro p hp
    rcases List.mem_append.mp hp with g | g
    · exact overL_ok k s p g
    · exact map_ok (fun p => mirr_ok) (overL_ok (-k) s) p g
  | found ps =>
    intro p hp
    obtain ⟨e, _, rfl⟩ := List.mem_map.mp hp
    intro l u e1 e2
    cases e1; cases e2; omega
theorem errS_ok {st : Stp} : ∀ p ∈ errS st, Spn.ok p := by
  cases st with
  | over k =>
    intro p hp
    have : p = (some 0, some 0) := by simpa [errS] using hp
    subst this
    intro l u e1 e2
    cases e1; cases e2; omega
  | found ps => exact ok_filter
  | _ => intro p hp; cases hp
theorem preAll_ok : ∀ {ss : List Stp} {s : List Sx}, (∀ st ∈ ss, Stp.ok st) → (∀ p ∈ s, Spn.ok p) → ∀ p ∈ preAll ss s, Spn.ok p
  | [], _, _, h => h
  | st :: r, s, ho, h => preS_ok (ho _ (List.mem_cons_self ..)) (preAll_ok (fun z hz => ho z (List.mem_cons_of_mem _ hz)) h)
theorem preAll_has : ∀ {ss : List Stp} {s : List Sx}, (∀ st ∈ ss, Stp.ok st) → (∀ p ∈ s, Spn.ok p) → ∀ x, hasL (preAll ss s) x ↔ ∃ y, leadAll ss x = some y ∧ hasL s y
  | [], s, _, h, x => ⟨fun g => ⟨x, rfl, g⟩, fun ⟨y, e, g⟩ => by cases e; exact g⟩
  | st :: r, s, ho, h, x => by
    have hr : ∀ z ∈ r, Stp.ok z := fun z hz => ho z (List.mem_cons_of_mem _ hz)
    refine (preS_has (ho _ (List.mem_cons_self ..)) (preAll_ok hr h) x).trans ?_
    constructor
    · rintro ⟨y, e, g⟩
      obtain ⟨z, e2, g2⟩ := (preAll_has hr h y).mp g
      refine ⟨z, ?_, g2⟩
      unfold leadAll; rw [e]; exact e2
    · rintro ⟨z, e, g⟩
      unfold leadAll at e
      cases e1 : lead st x with
      | none => rw [e1] at e; cases e
      | some y =>
        rw [e1] at e
        exact ⟨y, rfl, (preAll_has hr h y).mpr ⟨z, e, g⟩⟩
theorem errAll_ok : ∀ {ss : List Stp}, (∀ st ∈ ss, Stp.ok st) → ∀ p ∈ errAll ss, Spn.ok p
  | [], _, p, hp => by cases hp
  | st :: r, ho, p, hp => by
    rcases List.mem_append.mp hp with g | g
    · exact errS_ok p g
    · exact preS_ok (ho _ (List.mem_cons_self ..)) (errAll_ok fun z hz => ho z (List.mem_cons_of_mem _ hz)) p g
theorem errAll_has : ∀ {ss : List Stp}, (∀ st ∈ ss, Stp.ok st) → (∀ st ∈ ss, asc st) → ∀ x, hasL (errAll ss) x ↔ leadAll ss x = none
  | [], _, _, x => ⟨fun h => absurd h (hasL_nil x), fun h => by cases h⟩
  | st :: r, ho, ha, x => by
    have hr : ∀ z ∈ r, Stp.ok z := fun z hz => ho z (List.mem_cons_of_mem _ hz)
    unfold errAll
    rw [hasL_append, errS_has (ha _ (List.mem_cons_self ..)), preS_has (ho _ (List.mem_cons_self ..)) (errAll_ok hr)]
    unfold leadAll
    cases e1 : lead st x with
    | none => exact ⟨fun _ => rfl, fun _ => .inl rfl⟩
    | some y =>
      have ih := errAll_has hr (fun z hz => ha z (List.mem_cons_of_mem _ hz)) y
      constructor
      · rintro (h | ⟨z, e, h⟩)
        · cases h
        · cases e; exact ih.mp h
      · intro h; exact .inr ⟨y, rfl, ih.mpr h⟩
/-! ### how many, how great -/
theorem overL_len (k : Int) (s : List Sx) : (overL k s).length ≤ s.length := by
  unfold overL
  split
  · exact Nat.le_trans (List.length_filterMap_le ..) (by simp)
  · exact List.length_filterMap_le ..
theorem preS_len {st : Stp} (ho : st.ok) (s : List Sx) : (preS st s).length ≤ 2 * s.length + 8 := by
  cases st with
  | plus k => simp [preS]; omega
  | times k =>
    show (timesL k s).length ≤ _
    unfold timesL
    split
    · refine Nat.le_trans (List.length_filter_le ..) ?_; simp; omega
    · refine Nat.le_trans (List.length_filter_le ..) ?_; simp; omega
  | into d => simp [preS]; omega
  | over k =>
    show (overL k s ++ (overL (-k) s).map mirr).length ≤ _
    have := overL_len k s
    have := overL_len (-k) s
    rw [List.length_append, List.length_map]
    omega
  | found ps =>
    show (List.map _ (ps.filter _)).length ≤ _
    rw [List.length_map]
    have := List.length_filter_le (fun e : Int × Int => holds (joined s) e.2) ps
    have := ho.2.2
    omega
theorem errGo_len : ∀ (lo : Option Int) (ps : List (Int × Int)), (errGo lo ps).length = ps.length + 1
  | _, [] => rfl
  | _, e :: r => by unfold errGo; rw [List.length_cons, errGo_len, List.length_cons]
theorem errS_len {st : Stp} (ho : st.ok) : (errS st).length ≤ 9 := by
  cases st with
  | over k => simp [errS]
  | found ps =>
    refine Nat.le_trans (List.length_filter_le ..) ?_
    rw [errGo_len]
    have := ho.2.2
    omega
  | _ => simp [errS]
theorem preAll_len : ∀ {ss : List Stp} (s : List Sx), (∀ st ∈ ss, Stp.ok st) → (preAll ss s).length + 8 ≤ 2 ^ ss.length * (s.length + 8)
  | [], s, _ => by simp [preAll]
  | st :: r, s, ho => by
    have h1 := preAll_len s fun z hz => ho z (List.mem_cons_of_mem _ hz)
    have h2 := preS_len (ho _ (List.mem_cons_self ..)) (preAll r s)
    show (preS st (preAll r s)).length + 8 ≤ _
    rw [List.length_cons, Nat.pow_succ, Nat.mul_comm (2 ^ r.length) 2, Nat.mul_assoc]
    omega
theorem errAll_len : ∀ {ss : List Stp}, (∀ st ∈ ss, Stp.ok st) → (errAll ss).length + 17 ≤ 2 ^ ss.length * 17
  | [], _ => by simp [errAll]
  | st :: r, ho => by
    have h1 := errAll_len fun z hz => ho z (List.mem_cons_of_mem _ hz)
    have h2 := preS_len (ho _ (List.mem_cons_self ..)) (errAll r)
    have h3 := errS_len (ho _ (List.mem_cons_self ..))
    show (errS st ++ preS st (errAll r)).length + 17 ≤ _
    rw [List.length_append, List.length_cons, Nat.pow_succ, Nat.mul_comm (2 ^ r.length) 2, Nat.mul_assoc]
    omega
end Gx.Spn

set_option Elab.async false
set_option linter.all false
/-! How great the ends of stretches grow that steps lead back. -/
namespace Gx.Spn
open Gx
def Wd (B : Nat) (s : List Sx) : Prop := ∀ p ∈ s, (∀ l, p.1 = some l → l.natAbs < B) ∧ ∀ h, p.2 = some h → h.natAbs < B
theorem Wd.mono {B C : Nat} {s : List Sx} (h : Wd B s) (le : B ≤ C) : Wd C s := fun p hp => ⟨fun l e => Nat.lt_of_lt_of_le ((h p hp).1 l e) le, fun l e => Nat.lt_of_lt_of_le ((h p hp).2 l e) le⟩
theorem Wd.app {B : Nat} {s r : List Sx} (h : Wd B s) (h' : Wd B r) : Wd B (s ++ r) := fun p hp => (List.mem_append.mp hp).elim (h p) (h' p)
theorem Wd.sub {B : Nat} {s r : List Sx} (h : Wd B s) (hs : ∀ p ∈ r, p ∈ s) : Wd B r := fun p hp => h p (hs p hp)
theorem Wd.map {B C : Nat} {f : Sx → Sx} {s : List Sx} (h : Wd B s) (hf : ∀ p : Sx, ((∀ l, p.1 = some l → l.natAbs < B) ∧ ∀ h, p.2 = some h → h.natAbs < B) → ((∀ l, (f p).1 = some l → l.natAbs < C) ∧ ∀ h, (f p).2 = some h → h.natAbs < C)) : Wd C (s.map f) := fun q hq => by
  obtain ⟨p, hp, rfl⟩ := List.mem_map.mp hq
  exact hf p (h p hp)
theorem mirr_wd {B : Nat} {s : List Sx} (h : Wd B s) : Wd B (s.map mirr) := h.map fun p hp => by
  obtain ⟨a, b⟩ := p
  obtain ⟨h1, h2⟩ := hp
  unfold mirr
  constructor
  · intro l e
    cases b <;> simp at e
    have := h2 _ rfl
    omega
  · intro l e
    cases a <;> simp at e
    have := h1 _ rfl
    omega
theorem overL_wd {k : Int} {C : Nat} (hk : k.natAbs + 2 < C) (s : List Sx) : Wd C (overL k s) := by
  have one : ∀ k' : Int, k'.natAbs + 1 < C → ∀ p q : Sx, overA k' p = some q → (∀ l, q.1 = some l → l.natAbs < C) ∧ ∀ h, q.2 = some h → h.natAbs < C := by
    intro k' hk' p q h
    unfold overA at h
    split at h
    · cases h
    · split at h
      · cases h
        obtain ⟨a, b⟩ := p
        unfold overQ
        constructor
        · intro l e
          cases b with
          | none => simp at e; omega
          | some u =>
            rename_i hn hs
            have u0 : 0 ≤ u := by simpa [neg] using hn
            have := fdiv_abs (a := k') (b := u + 1) (by omega)
            simp at e
            omega
        · intro l e
          cases a with
          | none => simp at e
          | some x =>
            simp only at e
            split at e
            · cases e
            · have := fdiv_abs (a := k') (b := x) (by omega)
              simp at e
              omega
      · cases h
  intro q hq
  unfold overL at hq
  split at hq
  · obtain ⟨p, _, e⟩ := List.mem_filterMap.mp hq; exact one _ (by omega) p q e
  · obtain ⟨p, _, e⟩ := List.mem_filterMap.mp hq; exact one _ (by omega) p q e
theorem near_lt {k : Int} (h : Near k) : k.natAbs ≤ 1000000000000 := by obtain ⟨h1, h2⟩ := h; omega
theorem preS_wd {st : Stp} (ho : st.ok) {b : Nat} {s : List Sx} (h : Wd (2 ^ b) s) : Wd (2 ^ (b + 42)) (preS st s) := by
  have p1 : (2 : Nat) ^ (b + 42) = 2 ^ b * 2 ^ 42 := Nat.pow_add 2 b 42
  have p2 : (2 : Nat) ^ 42 = 4398046511104 := by decide
  have p4 : 1 ≤ (2 : Nat) ^ b := Nat.one_le_two_pow
  rw [p1, p2]
  generalize hB : (2 : Nat) ^ b = B at *
  cases st with
  | plus k =>
    have q := near_lt ho
    refine h.map fun p hp => ?_
    obtain ⟨a, c⟩ := p
    obtain ⟨h1, h2⟩ := hp
    unfold plusP
    constructor
    · intro l e; cases a <;> simp at e; have := h1 _ rfl; omega
    · intro l e; cases c <;> simp at e; have := h2 _ rfl; omega
  | times k =>
    have tp : ∀ (k' : Int) (r : List Sx), k' ≠ 0 → Wd B r → Wd B (r.map (timesP k')) := fun k' r h0 hr => hr.map fun p hp => by
      obtain ⟨a, c⟩ := p
      obtain ⟨h1, h2⟩ := hp
      unfold timesP
      constructor
      · intro l e
        cases a with
        | none => simp at e
        | some x =>
          simp at e
          have := h1 _ rfl
          have := fdiv_abs (a := -x) h0
          omega
      · intro l e
        cases c with
        | none => simp at e
        | some x =>
          simp at e
          have := h2 _ rfl
          have := fdiv_abs (a := x) h0
          omega
    have h0 := ho.2
    show Wd _ (timesL k s)
    refine Wd.mono (B := B) ?_ (by omega)
    unfold timesL
    split
    · exact (tp (-k) _ (by omega) (mirr_wd h)).sub fun p hp => (List.mem_filter.mp hp).1
    · exact (tp k _ h0 h).sub fun p hp => (List.mem_filter.mp hp).1
  | into d =>
    have d0 := ho.1
    have d1 := ho.2
    have mb : ∀ x : Int, x.natAbs < B → (x * d).natAbs ≤ B * 1000000000000 := fun x hx => by
      rw [Int.natAbs_mul]
      exact Nat.mul_le_mul (by omega) (by omega)
    refine h.map fun p hp => ?_
    obtain ⟨a, c⟩ := p
    obtain ⟨h1, h2⟩ := hp
    unfold intoP
    constructor
    · intro l e
      cases a with
      | none => simp at e
      | some x =>
        simp at e
        have := mb x (h1 _ rfl)
        generalize x * d = y at *
        omega
    · intro l e
      cases c with
      | none => simp at e
      | some x =>
        simp at e
        have := mb x (h2 _ rfl)
        generalize x * d = y at *
        omega
  | over k =>
    have q := near_lt ho
    exact Wd.app (overL_wd (by omega) s) (mirr_wd (overL_wd (by omega) s))
  | found ps =>
    intro q hq
    obtain ⟨e, he, rfl⟩ := List.mem_map.mp hq
    have := near_lt (ho.2.1 e (List.mem_filter.mp he).1).1
    constructor
    · intro l g; simp at g; omega
    · intro l g; simp at g; omega
theorem errGo_wd {C : Nat} : ∀ {lo : Option Int} {ps : List (Int × Int)}, (∀ l, lo = some l → l.natAbs < C) → (∀ e ∈ ps, e.1.natAbs + 1 < C) → Wd C (errGo lo ps)
  | lo, [], h, _ => fun p hp => by
    have : p = (lo, none) := by simpa [errGo] using hp
    subst this
    exact ⟨h, fun _ e => by cases e⟩
  | lo, e :: r, h, hp => fun p hq => by
    unfold errGo at hq
    have he := hp e (List.mem_cons_self ..)
    rcases List.mem_cons.mp hq with g | g
    · subst g
      exact ⟨h, fun u g => by simp at g; omega⟩
    · exact errGo_wd (fun l g => by simp at g; omega) (fun z hz => hp z (List.mem_cons_of_mem _ hz)) p g
theorem errS_wd {st : Stp} (ho : st.ok) : Wd (2 ^ 42) (errS st) := by
  have p2 : (2 : Nat) ^ 42 = 4398046511104 := by decide
  rw [p2]
  cases st with
  | over k =>
    intro p hp
    have : p = (some 0, some 0) := by simpa [errS] using hp
    subst this
    exact ⟨fun l e => by simp at e; omega, fun l e => by simp at e; omega⟩
  | found ps =>
    exact (errGo_wd (C := 4398046511104) (lo := none) (ps := ps) (fun l e => by cases e) fun e he => by have := near_lt (ho.2.1 e he).1; omega).sub fun p hp => (List.mem_filter.mp hp).1
  | _ => intro p hp; cases hp
theorem preAll_wd : ∀ {ss : List Stp} {b : Nat} {s : List Sx}, (∀ st ∈ ss, Stp.ok st) → Wd (2 ^ b) s → Wd (2 ^ (b + 42 * ss.length)) (preAll ss s)
  | [], _, _, _, h => h
  | st :: r, b, s, ho, h => by
    have := preS_wd (ho _ (List.mem_cons_self ..)) (preAll_wd (fun z hz => ho z (List.mem_cons_of_mem _ hz)) h)
    rw [List.length_cons, show b + 42 * (r.length + 1) = b + 42 * r.length + 42 by omega]
    exact this
theorem errAll_wd : ∀ {ss : List Stp}, (∀ st ∈ ss, Stp.ok st) → Wd (2 ^ (42 * ss.length)) (errAll ss)
  | [], _ => fun p hp => by cases hp
  | st :: r, ho => by
    have := preS_wd (ho _ (List.mem_cons_self ..)) (errAll_wd fun z hz => ho z (List.mem_cons_of_mem _ hz))
    rw [List.length_cons, show 42 * (r.length + 1) = 42 * r.length + 42 by omega]
    exact Wd.app ((errS_wd (ho _ (List.mem_cons_self ..))).mono (Nat.pow_le_pow_right (by decide) (by omega))) this
/-- beyond 2 ^ b nothing changes any more -/
def Ev (b : Nat) (s : List Sx) : Prop := ∀ x : Int, 2 ^ b < x.natAbs → (hasL s x ↔ hasL s (x + 1))
theorem Ev.mono {b c : Nat} {s : List Sx} (h : Ev b s) (le : b ≤ c) : Ev c s := fun x hx => h x (Nat.lt_of_le_of_lt (Nat.pow_le_pow_right (by decide) le) hx)
theorem Ev.of {b : Nat} {s : List Sx} (h : Wd (2 ^ b) s) : Ev b s := fun x hx => by
  generalize 2 ^ b = B at *
  have one : ∀ p ∈ s, (has p x ↔ has p (x + 1)) := fun p hp => by
    obtain ⟨a, c⟩ := p
    obtain ⟨h1, h2⟩ := h _ hp
    unfold has
    cases a with
    | none =>
      cases c with
      | none => simp
      | some u => have := h2 u rfl; simp; omega
    | some l =>
      have := h1 l rfl
      cases c with
      | none => simp; omega
      | some u => have := h2 u rfl; simp; omega
  exact ⟨fun ⟨p, hp, g⟩ => ⟨p, hp, (one p hp).mp g⟩, fun ⟨p, hp, g⟩ => ⟨p, hp, (one p hp).mpr g⟩⟩
theorem Ev.wd {b : Nat} {s : List Sx} (c : Canon s) (h : Ev b s) (hb : 1 ≤ b) : Wd (2 ^ (b + 1)) s := fun p hp => by
  have b2 : 2 ≤ 2 ^ b := by
    have := Nat.pow_le_pow_right (n := 2) (by decide) hb
    simpa using this
  rw [Nat.pow_succ]
  constructor
  · intro l e
    obtain ⟨h1, h2⟩ := canon_low c hp e
    have := h (l - 1)
    rw [show l - 1 + 1 = l by omega] at this
    have : ¬ 2 ^ b < (l - 1).natAbs := fun z => h2 ((this z).mpr h1)
    omega
  · intro u e
    obtain ⟨h1, h2⟩ := canon_high c hp e
    have : ¬ 2 ^ b < u.natAbs := fun z => h2 ((h u z).mp h1)
    omega
theorem Ev.congr {b : Nat} {s r : List Sx} (h : Ev b s) (e : ∀ x, hasL r x ↔ hasL s x) : Ev b r := fun x hx => by rw [e, e]; exact h x hx
theorem Ev.or {b : Nat} {s r u : List Sx} (h : Ev b s) (h' : Ev b r) (e : ∀ x, hasL u x ↔ hasL s x ∨ hasL r x) : Ev b u := fun x hx => by rw [e, e, h x hx, h' x hx]
theorem Ev.and {b : Nat} {s r u : List Sx} (h : Ev b s) (h' : Ev b r) (e : ∀ x, hasL u x ↔ hasL s x ∧ hasL r x) : Ev b u := fun x hx => by rw [e, e, h x hx, h' x hx]
theorem Ev.not {b : Nat} {s u : List Sx} (h : Ev b s) (e : ∀ x, hasL u x ↔ ¬ hasL s x) : Ev b u := fun x hx => by rw [e, e, h x hx]
theorem Ev.nil {b : Nat} : Ev b [] := fun x _ => ⟨fun h => absurd h (hasL_nil _), fun h => absurd h (hasL_nil _)⟩
end Gx.Spn

set_option Elab.async false
set_option linter.all false
/-! repr of stretches: what it asks of them. -/
namespace Gx
open PySem PySem.Spec PyProof.Rows L2 Evl
theorem log_lt {x : Int} {b : Nat} (h : x.natAbs < 2 ^ b) (hb : b ≤ 1900) : x.natAbs.log2 < 1920 := by
  by_cases h0 : x.natAbs = 0
  · rw [h0]; decide
  · have := (Nat.log2_lt h0).mpr h
    omega
theorem dO_show {o : Option Int} {b : Nat} (h : ∀ x, o = some x → x.natAbs < 2 ^ b) (hb : b ≤ 1900) : (dO o).showable = true := by
  cases o with
  | none => rfl
  | some x => exact decide_eq_true (log_lt (h x rfl) hb)
theorem sts_show {b : Nat} (hb : b ≤ 1900) : ∀ {s : List Sx}, Spn.Wd (2 ^ b) s → PyData.showableAll (s.map dSt) = true
  | [], _ => rfl
  | p :: s, h => by
    obtain ⟨h1, h2⟩ := h p (List.mem_cons_self ..)
    have ih := sts_show hb (s := s) fun q hq => h q (List.mem_cons_of_mem _ hq)
    have e1 := dO_show h1 hb
    have e2 := dO_show h2 hb
    simp only [List.map_cons, PyData.showableAll, dSt, PyData.showable, e1, e2, ih, Bool.and_self]
theorem dO_wide (o : Option Int) : wide (dO o) ≤ 1921 := by cases o <;> simp [dO, wide]
theorem sts_wide : ∀ s : List Sx, wide.wideAll (s.map dSt) ≤ 3851 * s.length
  | [] => Nat.le_refl _
  | p :: s => by
    have ih := sts_wide s
    have e1 := dO_wide p.1
    have e2 := dO_wide p.2
    simp only [List.map_cons, wide.wideAll, dSt, wide, List.length_cons]
    omega
theorem cnt_lt {B : Nat} : ∀ {s : List Sx}, Spn.Wd B s → 1 ≤ B → (Spn.cnt s).natAbs ≤ s.length * (2 * B)
  | [], _, _ => Nat.zero_le _
  | p :: s, h, hB => by
    have ih := cnt_lt (s := s) (fun q hq => h q (List.mem_cons_of_mem _ hq)) hB
    obtain ⟨h1, h2⟩ := h p (List.mem_cons_self ..)
    have e : Spn.cnt (p :: s) = Spn.cnt1 p + Spn.cnt s := by unfold Spn.cnt; rw [List.map_cons, List.sum_cons]
    have c1 : (Spn.cnt1 p).natAbs ≤ 2 * B := by
      unfold Spn.cnt1
      obtain ⟨a, c⟩ := p
      cases a with
      | none =>
        cases c with
        | none => simp; omega
        | some u => have := h2 u rfl; simp; omega
      | some l =>
        have := h1 l rfl
        cases c with
        | none => simp; omega
        | some u => have := h2 u rfl; simp; omega
    rw [e, List.length_cons, Nat.add_mul, Nat.one_mul]
    omega
/-- [how many, an int, the stretches]: as a law compares it -/
theorem three_ok {b : Nat} {s : List Sx} {m : Option Int} {n : Int} (hb : b ≤ 1900) (h : Spn.Wd (2 ^ b) s) (hl : s.length ≤ 2000) (hm : ∀ x, m = some x → x.natAbs < 2 ^ b) (hn : n.natAbs < 2 ^ b) :
    SeqAt.shaped (.list [dO m, .int n, .list (s.map dSt)]) = true ∧ PyData.showable (.list [dO m, .int n, .list (s.map dSt)]) = true ∧ wide (.list [dO m, .int n, .list (s.map dSt)]) ≤ 10000000 := by
  obtain ⟨h1, h2⟩ := dSts_can s
  obtain ⟨c1, c2⟩ := dO_can m
  refine ⟨?_, ?_, ?_⟩
  · unfold SeqAt.shaped
    have e2 : PyData.canLay0 (.list [dO m, .int n, .list (s.map dSt)]) = true := by simp [PyData.canLay0, PyData.canLayAll0, h1, c1]
    rw [e2, Bool.true_and]
    refine decide_eq_true ?_
    simp only [PyData.depth, PyData.depthAll, c2]
    omega
  · have e1 := dO_show hm hb
    have e3 : (PyData.int n).showable = true := decide_eq_true (log_lt hn hb)
    simp only [PyData.showable, PyData.showableAll, e1, sts_show hb h, Bool.and_true, Bool.true_and]
    exact e3
  · have e1 := dO_wide m
    have e2 := sts_wide s
    simp only [wide, wide.wideAll]
    omega
end Gx
namespace Gx
theorem ends_lt {b : Nat} {s : List Sx} (h : Spn.Wd (2 ^ b) s) (hb : b ≤ 900) : ∀ x ∈ Spn.endsOf s, x.natAbs < 2 ^ 1000 := fun x hx => by
  have h1 : 2 ^ b ≤ 2 ^ 900 := Nat.pow_le_pow_right (by decide) hb
  have h2 : 2 ^ 1000 = 2 ^ 900 * 2 ^ 100 := Nat.pow_add 2 900 100
  have h3 : (2 : Nat) ^ 100 = 1267650600228229401496703205376 := by decide
  have h4 : 2 ^ 200 ≤ 2 ^ 900 := Nat.pow_le_pow_right (by decide) (by decide)
  have h5 : (2 : Nat) ^ 200 = 1606938044258990275541962092341162602522202993782792835301376 := by decide
  have h6 : (10 : Int) ^ 59 = 100000000000000000000000000000000000000000000000000000000000 := by decide
  rw [h2, h3]
  rw [h5] at h4
  generalize 2 ^ 900 = B at *
  unfold Spn.endsOf at hx
  rw [h6] at hx
  have e3 : ∀ (o : Option Int), (∀ l, o = some l → l.natAbs < 2 ^ b) → ∀ y ∈ Spn.e3 o, y.natAbs < B * 1267650600228229401496703205376 := fun o ho y hy => by
    cases o with
    | none => cases hy
    | some l =>
      have := ho l rfl
      simp only [Spn.e3, List.mem_cons, List.not_mem_nil, or_false] at hy
      generalize 2 ^ b = D at *
      omega
  rcases List.mem_append.mp hx with g | g
  · simp only [List.mem_cons, List.not_mem_nil, or_false] at g
    omega
  · obtain ⟨p, hp, hy⟩ := List.mem_flatMap.mp g
    obtain ⟨k1, k2⟩ := h p hp
    unfold Spn.e6 at hy
    rcases List.mem_append.mp hy with z | z
    · exact e3 _ k1 _ z
    · exact e3 _ k2 _ z
theorem cp10_13 : L2.CPow 10 13 := ⟨by decide, by decide, by decide⟩
end Gx

set_option Elab.async false
set_option linter.all false
set_option maxRecDepth 100000
set_option maxHeartbeats 4000000
namespace K12
open PySem PySem.Spec PyProof.Rows L2 Evl Gx RZ
abbrev s_l_first_right : Stmt := topS 32
theorem sc_l_first_right : FnScope ["_law_given", "_law_listed", "_law_found", "_law_pair"] ["_law_given", "_law_listed"] (defScope s_l_first_right) := ⟨rfl, rfl, rfl, by decide +kernel, rfl, by decide +kernel, by decide +kernel⟩
/-- what a Spans tells, as the law compares it -/
def firstD (r : List Sx) (o : Option Int) : PyData := .list [dO (manyO r), .int r.length, .list (r.map dSt), dO o]
theorem first_ok {b : Nat} {r : List Sx} {o : Option Int} (hb : b ≤ 900) (h : Spn.Wd (2 ^ b) r) (hl : r.length ≤ 1000) (ho : ∀ x, o = some x → x.natAbs < 2 ^ 1000) :
    SeqAt.shaped (firstD r o) = true ∧ PyData.showable (firstD r o) = true ∧ wide (firstD r o) ≤ 10000000 := by
  obtain ⟨h1, h2⟩ := dSts_can r
  obtain ⟨c1, c2⟩ := dO_can (manyO r)
  obtain ⟨c3, c4⟩ := dO_can o
  have hm : ∀ x, manyO r = some x → x.natAbs < 2 ^ 1000 := fun x hx => by
    unfold manyO at hx
    split at hx
    · cases hx
      have z := cnt_lt h (Nat.one_le_two_pow)
      have h3 : r.length * (2 * 2 ^ b) ≤ 1000 * (2 * 2 ^ 900) := Nat.mul_le_mul hl (Nat.mul_le_mul_left _ (Nat.pow_le_pow_right (by decide) hb))
      have h4 : 2 ^ 1000 = 2 ^ 900 * 2 ^ 100 := Nat.pow_add 2 900 100
      have h5 : (2 : Nat) ^ 100 = 1267650600228229401496703205376 := by decide
      have h6 : 0 < 2 ^ 900 := Nat.two_pow_pos _
      rw [h4, h5]
      generalize 2 ^ 900 = B at *
      omega
    · cases hx
  unfold firstD
  refine ⟨?_, ?_, ?_⟩
  · unfold SeqAt.shaped
    have e2 : PyData.canLay0 (.list [dO (manyO r), .int r.length, .list (r.map dSt), dO o]) = true := by simp [PyData.canLay0, PyData.canLayAll0, h1, c1, c3]
    rw [e2, Bool.true_and]
    refine decide_eq_true ?_
    simp only [PyData.depth, PyData.depthAll, c2, c4]
    omega
  · have e1 := dO_show hm (by decide)
    have e2 := dO_show ho (by decide)
    have e3 : (PyData.int r.length).showable = true := decide_eq_true (log_lt (b := 1000) (by
      have : (1000 : Nat) < 2 ^ 10 := by decide
      have : 2 ^ 10 ≤ 2 ^ 1000 := Nat.pow_le_pow_right (by decide) (by decide)
      generalize 2 ^ 1000 = B at *
      omega) (by decide))
    simp only [PyData.showable, PyData.showableAll, e1, e2, sts_show (by omega : b ≤ 1900) h, Bool.and_true, Bool.true_and]
    exact e3
  · have e1 := dO_wide (manyO r)
    have e2 := dO_wide o
    have e3 := sts_wide r
    simp only [wide, wide.wideAll]
    omega
theorem least_lt {b : Nat} {r : List Sx} {o : Option Int} (h : Spn.Wd (2 ^ b) r) (hb : b ≤ 900) (ok : ∀ p ∈ r, Spn.ok p) (ho : Spn.leastO r o) : ∀ x, o = some x → x.natAbs < 2 ^ 1000 := by
  rintro x rfl
  obtain ⟨⟨p, hp, hx⟩, hm⟩ := ho
  have n1 := (Spn.near_has (ok p hp)).1
  have n2 := hm _ ⟨p, hp, n1⟩
  have n3 := Spn.near_dist (ok p hp) x hx
  have e : x = Spn.near p := Spn.distC_inj (Int.le_antisymm n2 n3)
  have hc := Spn.near_cand (s := r) hp (ok p hp)
  rw [← e] at hc
  have h0 : (0 : Int).natAbs < 2 ^ b := Nat.two_pow_pos _
  have le : 2 ^ b ≤ 2 ^ 1000 := Nat.pow_le_pow_right (by decide) (by omega)
  refine Nat.lt_of_lt_of_le ?_ le
  unfold Spn.cand at hc
  rcases List.mem_append.mp hc with g | g
  · split at g
    · rw [List.mem_singleton] at g; subst g; exact h0
    · cases g
  · obtain ⟨q, hq, g⟩ := List.mem_flatMap.mp g
    obtain ⟨k1, k2⟩ := h q hq
    rcases List.mem_append.mp g with g | g
    · exact k1 x (Option.mem_toList.mp g)
    · exact k2 x (Option.mem_toList.mp g)
theorem bnd_ev {s : List Sx} (h : Spn.Bnd s) : Spn.Ev 200 s := Spn.Ev.of fun p hp => by
  obtain ⟨h1, h2⟩ := h p hp
  have b1 : (10 : Int) ^ 50 = 100000000000000000000000000000000000000000000000000 := by decide
  have b2 : (2 : Nat) ^ 200 = 1606938044258990275541962092341162602522202993782792835301376 := by decide
  rw [b1] at h1 h2
  rw [b2]
  exact ⟨fun l e => by have := h1 l e; omega, fun l e => by have := h2 l e; omega⟩
def spFirst (K : PySem.W.Frag) : Sp := fun vs H Q _ => ∃ (a l : Addr) (xs : List V) (s r : List Sx), vs = [.ref a, .ref l] ∧ StsB false K H a s ∧ (∀ p ∈ s, Spn.ok p) ∧ Spn.Bnd s ∧ s.length ≤ 5 ∧
  H l = some (.lst xs) ∧ DpAll K H xs (r.map dSt) ∧ Spn.Canon r ∧ (∀ i, Spn.hasL s i ↔ Spn.hasL r i) ∧ r.length ≤ 5 ∧ ∀ H', Ex H H' → Q (.bl true) H'
section
variable {P : Program} {w : World} {K : PySem.W.Frag} {mg : Str → Option Value} {base : Heap} {C fI g_or g_and g_sub g_inv g_len g_in g_eq g_it f_Spans_many f_Spans_least f_l_alike f_l_many f_l_nearest : Addr} {fdI fd_Spans_many fd_Spans_least fd_l_alike fd_l_many fd_l_nearest : FuncData}
theorem ok_first {f : Addr} {fd : FuncData} (D : Def K mg "_law_first_right" s_l_first_right f fd ["_law_given", "_law_listed"]) (bi : Bi mg) (T_Spans : SpansT K mg C fI)
    (SO : SpOps K C g_or g_and g_sub g_inv g_len g_in g_eq) (R_len : FnR P w K mg base CX0 1 g_len (spLenS K C))
    (IT : PySem.W.findIn K (.ref C) "__iter__" = some (some (.ref g_it)) ∧ PySem.W.isFn K (.ref g_it) = true) (R_iter : FnR P w K mg base CX0 1 g_it (spIterS K C))
    (D_Spans___init : MDef K C "__init__" "Spans.__init__" s_Spans___init fI fdI ["self", "pairs"])
    (G_Spans___init : FnOk P w K mg base (L2.CX P w) 6 fI fdI ["self", "pairs"] (spSpansI K C))
    (D_Spans_many : MDef K C "many" "Spans.many" s_Spans_many f_Spans_many fd_Spans_many ["self"])
    (G_Spans_many : FnOk P w K mg base CX0 1 f_Spans_many fd_Spans_many ["self"] (spMany K C))
    (D_Spans_least : MDef K C "least" "Spans.least" s_Spans_least f_Spans_least fd_Spans_least ["self"])
    (G_Spans_least : FnOk P w K mg base CX0 5 f_Spans_least fd_Spans_least ["self"] (spLeast K C))
    (D_l_alike : Def K mg "_law_alike" s_l_alike f_l_alike fd_l_alike ["_law_found", "_law_due"])
    (G_l_alike : FnQ P w K mg base CX0 1 f_l_alike fd_l_alike ["_law_found", "_law_due"] (spAlike K))
    (D_l_many : Def K mg "_law_many" s_l_many f_l_many fd_l_many ["_law_listed"])
    (G_l_many : FnOk P w K mg base CX0 1 f_l_many fd_l_many ["_law_listed"] (spManyL K))
    (D_l_nearest : Def K mg "_law_nearest" s_l_nearest f_l_nearest fd_l_nearest ["_law_listed"])
    (G_l_nearest : FnOk P w K mg base CX0 2 f_l_nearest fd_l_nearest ["_law_listed"] (spNearL K)) :
    FnQ P w K mg base CX0 8 f fd ["_law_given", "_law_listed"] (spFirst K) := by
  refine fnq_ok D.fn sc_l_first_right (fun vs H Q E h => ?_) (fun cdv A outer s0 H vs Q E hr qu h => ?_)
  · obtain ⟨a, l, xs, s, r, rfl, _⟩ := h
    rfl
  · obtain ⟨a, l, xs, s, r, rfl, ha, ho, hB, hz, hl, hd, cn, hm, hr5, k⟩ := h
    have hu64 := hr.units
    refine ⟨_, (pss_cons (ps_set (i := 2) sc_l_first_right.nd rfl (Or.inl rfl) (pe_lst (pa_cons (pe_meth0 (pe_make T_Spans.mak G_Spans___init (hr.mono (by first | decide | omega)) rfl T_Spans.gC D_Spans___init.bd .nil passL (pa_cons (pv 0) pa_nil)) T_Spans.cl D_Spans_many.mt G_Spans_many (hr.mono (by first | decide | omega)) D_Spans_many.bd .nil pass0) (pa_cons (pe_callB (call_lenI SO.len SO.lenf R_len (hr.mono (by first | decide | omega)) pass0) (by rfl) bi.len bt_len (pa_cons (pe_make T_Spans.mak G_Spans___init (hr.mono (by first | decide | omega)) rfl T_Spans.gC D_Spans___init.bd .nil passL (pa_cons (pv 0) pa_nil)) pa_nil)) (pa_cons (pe_lc (own := [("_law_pair", 3)]) rfl sc_l_first_right.nd (pi_ownT IT.1 IT.2 R_iter (hr.mono (by first | decide | omega)) pass0 (pe_makeY T_Spans.mak G_Spans___init (hr.mono (by first | decide | omega)) rfl T_Spans.gC D_Spans___init.bd .nil passL (pa_cons (pv 0) pa_nil))) (blkOk_by (N := ["_law_given", "_law_listed", "_law_found", "_law_pair"]) (sc := defScope s_l_first_right) (by decide +kernel)) (fun _ _ _ _ _ => (pg_name (i := 3) sc_l_first_right.nd rfl (Or.inl rfl))) (fun _ _ _ _ _ => pts_nil) (fun _ _ _ _ _ => (pv 3))) (pa_cons (pe_meth0 (pe_make T_Spans.mak G_Spans___init (hr.mono (by first | decide | omega)) rfl T_Spans.gC D_Spans___init.bd .nil passL (pa_cons (pv 0) pa_nil)) T_Spans.cl D_Spans_least.mt G_Spans_least (hr.mono (by first | decide | omega)) D_Spans_least.bd .nil pass0) pa_nil))))))
  (pss_one (ps_ret (pe_callQ G_l_alike qu (hr.mono (by first | decide | omega)) rfl D_l_alike.mg D_l_alike.fn.kp D_l_alike.bd pass0 (pa_cons (pv 2) (pa_cons (pe_lst (pa_cons (pe_call G_l_many (hr.mono (by first | decide | omega)) rfl D_l_many.mg D_l_many.fn.kp D_l_many.bd .nil pass0 (pa_cons (pv 1) pa_nil)) (pa_cons (pe_callB call_len_seq (by rfl) bi.len bt_len (pa_cons (pv 1) pa_nil)) (pa_cons (pv 1) (pa_cons (pe_call G_l_nearest (hr.mono (by first | decide | omega)) rfl D_l_nearest.mg D_l_nearest.fn.kp D_l_nearest.bd .nil pass0 (pa_cons (pv 1) pa_nil)) pa_nil))))) pa_nil)))))), ?_⟩
    have go : ∀ {H1 : Hp} {R : Hp → Prop} {x dx : Addr}, Ex H H1 → H1 x = none → H1 dx = none → (∀ H', Ex H1 H' → SpAt K C H' x r 5 → R H') →
        spSpansI K C (.ref x :: ([V.ref a] ++ [])) (upd (upd H1 dx (.own x)) x (.ins C dx [])) (fun v H2 => v = .non ∧ R H2) E0 := fun e nx ndx kk =>
      made_sp (ha.to e) ho hz (by decide) nx ndx fun s' H' e' hs' hm' => by
        have : s' = r := Spn.canon_eq hs'.2.1 cn fun i => by rw [hm', hm]
        subst this
        exact kk H' e' hs'
    have nmm : (("many" : Str) == ("_stretches" : Str)) = false := by decide +kernel
    have nml : (("least" : Str) == ("_stretches" : Str)) = false := by decide +kernel
    refine ⟨_, rfl, fun x dx nx ndx nex => go (Ex.refl _) nx ndx fun H1 e1 g1 => ?_⟩
    obtain ⟨d1, f1, h1, h2⟩ := at_sp nmm g1
    refine ⟨x, d1, f1, rfl, h1, h2, x, r, _, rfl, g1, by decide, fun H2 e2 => ?_⟩
    have e02 := e1.trans e2
    refine ⟨_, rfl, fun x2 dx2 nx2 ndx2 nex2 => go e02 nx2 ndx2 fun H3 e3 g3 => ?_⟩
    obtain ⟨⟨d3, t3, h3, _⟩, _⟩ := id g3
    refine ⟨x2, d3, _, rfl, h3, x2, r, _, rfl, g3, r.length, rfl, Nat.le_trans g3.2.2 (by rw [sizeLine_eq]; decide), ?_⟩
    have e03 := e02.trans e3
    refine ⟨_, rfl, fun x3 dx3 nx3 ndx3 nex3 yg => go e03 nx3 ndx3 fun H4 e4 g4 => ?_⟩
    have e04 := e03.trans e4
    obtain ⟨⟨d4, t4, h4, _⟩, _⟩ := id g4
    refine ⟨x3, d4, _, rfl, h4, x3, r, _, rfl, g4, fun it t ys nit above hq hdt => ⟨it, t, rfl, Nat.le_of_lt (Nat.lt_of_le_of_lt yg (above x3 (by rw [h4]; exact fun z => by cases z))), upd_same, ?_⟩⟩
    rw [ItX.dropH_upd nit]
    intro D nD
    refine lc_dp (t := true) (fun i => (r[i]?).bind fun q => some (dSt q)) nD hq (by rw [sts_len hdt]; exact small (by omega)) ?_ ?_
    · rintro i y H5 N M hy e5 hN hM
      obtain ⟨q, tq, hpi, rfl, hs⟩ := sts_get hdt hy
      exact ⟨rfl, _, rfl, hN _ _ (dSt q) (Ex.refl _) (by rw [hpi]; rfl) (dSt_flat _) (dSt_mk (ex_t e5 hs))⟩
    intro H5 zs e5 hy hd5
    rw [sts_len hdt, outs_bind, List.filterMap_eq_map'] at hd5
    have e05 := e04.trans e5
    refine ⟨_, rfl, fun x5 dx5 nx5 ndx5 nex5 => go e05 nx5 ndx5 fun H6 e6 g6 => ?_⟩
    obtain ⟨d6, f6, h6, h7⟩ := at_sp nml g6
    refine ⟨x5, d6, f6, rfl, h6, h7, x5, r, _, rfl, g6, by decide, fun o H7 ho e7 => ⟨sz4, fun F nF => ?_⟩⟩
    have e07 := (e05.trans e6).trans e7
    have hD := (e6.trans e7) _ _ hy
    have X_H8 : Ex H7 (upd H7 F (.lst [vO (manyO r), .int r.length, .ref D, vO o])) := Ex.new nF
    have F_H8 : upd H7 F (.lst [vO (manyO r), .int r.length, .ref D, vO o]) F = some (.lst [vO (manyO r), .int r.length, .ref D, vO o]) := upd_same
    generalize upd H7 F (.lst [vO (manyO r), .int r.length, .ref D, vO o]) = H8 at X_H8 F_H8 ⊢
    have hl8 := (e07.trans X_H8) _ _ hl
    have hd8 := hd.to (e07.trans X_H8)
    refine ⟨_, rfl, _, rfl, l, xs, r, rfl, hl8, hd8, by omega, fun H9 e9 => ?_⟩
    have hl9 := e9 _ _ hl8
    have hd9 := hd8.to e9
    have xl : xs.length = r.length := sts_len hd
    refine ⟨_, rfl, l, xs, rfl, .inl (SqL.of hl9), ?_⟩
    refine ⟨_, rfl, _, rfl, l, xs, r, rfl, hl9, hd9, cn.ok, by omega, fun o2 H10 ho2 e10 => ⟨sz4, fun G nG => ?_⟩⟩
    obtain rfl := Spn.leastO_one ho ho2
    have X_H11 : Ex H10 (upd H10 G (.lst [vO (manyO r), .int xs.length, .ref l, vO o])) := Ex.new nG
    have F_H11 : upd H10 G (.lst [vO (manyO r), .int xs.length, .ref l, vO o]) G = some (.lst [vO (manyO r), .int xs.length, .ref l, vO o]) := upd_same
    generalize upd H10 G (.lst [vO (manyO r), .int xs.length, .ref l, vO o]) = H11 at X_H11 F_H11 ⊢
    have e811 := (e9.trans e10).trans X_H11
    obtain ⟨b, hb9, wd⟩ : ∃ b, b ≤ 900 ∧ Spn.Wd (2 ^ b) r := ⟨201, by decide, ((bnd_ev hB).congr fun i => (hm i).symm).wd cn (by decide)⟩
    obtain ⟨q1, q2, q3⟩ := first_ok hb9 wd (by omega) (least_lt wd hb9 cn.ok ho)
    refine ⟨.ref F, .ref G, firstD r o, rfl, .lst (SqL.of (e811 _ _ F_H8)) ?_, .lst (SqL.of F_H11) ?_, q1, q2, q3, k _ (((e07.trans X_H8).trans e9).trans (e10.trans X_H11))⟩
    · exact .cons (dp_vO _) (.cons (.int _) (.cons (.lst (SqL.of ((X_H8.trans e811) _ _ hD)) (hd5.to (((e6.trans e7).trans X_H8).trans e811))) (.cons (dp_vO _) .nil)))
    · rw [xl]
      exact .cons (dp_vO _) (.cons (.int _) (.cons (.lst (SqL.of ((e10.trans X_H11) _ _ hl9)) (hd9.to (e10.trans X_H11))) (.cons (dp_vO _) .nil)))
end
end K12

set_option Elab.async false
set_option linter.all false
set_option maxRecDepth 100000
set_option maxHeartbeats 4000000
namespace K12
open PySem PySem.Spec PyProof.Rows L2 Evl Gx RZ
abbrev s_l_right : Stmt := topS 33
theorem sc_l_right : FnScope ["_law_bag_here", "_law_spans", "_law_given", "_law_listed", "_law_number", "_law_low", "_law_high", "_law_cut", "_law_begin", "_law_end", "_law_pair"] ["_law_bag_here", "_law_spans", "_law_given"] (defScope s_l_right) := ⟨rfl, rfl, rfl, by decide +kernel, rfl, by decide +kernel, by decide +kernel⟩
theorem two_ok {r : List Sx} {o : Option Int} (h1 : SeqAt.shaped (firstD r o) = true) (h2 : PyData.showable (firstD r o) = true) :
    SeqAt.shaped (.list [dO (manyO r), dO o]) = true ∧ PyData.showable (.list [dO (manyO r), dO o]) = true ∧ wide (.list [dO (manyO r), dO o]) ≤ 10000000 := by
  obtain ⟨c1, c2⟩ := dO_can (manyO r)
  obtain ⟨c3, c4⟩ := dO_can o
  unfold firstD at h2
  simp only [PyData.showable, PyData.showableAll, Bool.and_true, Bool.and_eq_true] at h2
  refine ⟨?_, ?_, ?_⟩
  · unfold SeqAt.shaped
    have e2 : PyData.canLay0 (.list [dO (manyO r), dO o]) = true := by simp [PyData.canLay0, PyData.canLayAll0, c1, c3]
    rw [e2, Bool.true_and]
    refine decide_eq_true ?_
    simp only [PyData.depth, PyData.depthAll, c2, c4]
    omega
  · simp only [PyData.showable, PyData.showableAll, Bool.and_true, Bool.and_eq_true]
    exact ⟨h2.1, h2.2.2.2⟩
  · have e1 := dO_wide (manyO r)
    have e2 := dO_wide o
    simp only [wide, wide.wideAll]
    omega
def cutS (lo hi : Int) (q : Sx) : Sx := (some (if q.1.getD lo > lo then q.1.getD lo else lo), some (if q.2.getD hi < hi then q.2.getD hi else hi))
/-- something is left of it -/
def flat (q : Sx) : Bool := decide (q.1.getD 0 ≤ q.2.getD 0)
theorem cut_has {r : List Sx} {lo hi : Int} (lh : lo ≤ hi) (i : Int) : Spn.hasL ((((r.map (cutS lo hi)).filter flat))) i ↔ Spn.hasL r i ∧ lo ≤ i ∧ i ≤ hi := by
  have one : ∀ q : Sx, Spn.has (cutS lo hi q) i ↔ Spn.has q i ∧ lo ≤ i ∧ i ≤ hi := fun q => by
    obtain ⟨a, c⟩ := q
    unfold Spn.has cutS
    cases a <;> cases c <;> simp <;> (try split) <;> (try split) <;> (try omega)
  constructor
  · rintro ⟨q, hq, hi'⟩
    obtain ⟨q0, h0, rfl⟩ := List.mem_map.mp (List.mem_filter.mp hq).1
    obtain ⟨h1, h2⟩ := (one q0).mp hi'
    exact ⟨⟨q0, h0, h1⟩, h2⟩
  · rintro ⟨⟨q0, h0, h1⟩, h2⟩
    have h3 := (one q0).mpr ⟨h1, h2⟩
    refine ⟨cutS lo hi q0, List.mem_filter.mpr ⟨List.mem_map.mpr ⟨q0, h0, rfl⟩, ?_⟩, h3⟩
    unfold flat cutS
    unfold Spn.has cutS at h3
    simp only [Option.getD_some, decide_eq_true_iff]
    simp only [Option.some.injEq] at h3
    simp at h3
    omega
theorem cut_init (xs : List V) (v : V) : cutV (xs ++ [v]) none (some (-1)) = xs := by
  unfold cutV
  have h1 : HT.sIx (xs ++ [v]).length 0 none = 0 := rfl
  have h2 : HT.sIx (xs ++ [v]).length (xs ++ [v]).length (some (-1)) = xs.length := by
    unfold HT.sIx
    rw [List.length_append]
    simp
    try omega
  rw [h1, h2]
  simp
def spRight (K : PySem.W.Frag) (C : Addr) : Sp := fun vs H Q _ => ∃ (b p a : Addr) (ys : List V) (s r : List Sx), vs = [.ref b, .ref p, .ref a] ∧ Bag H b ∧ H a = some (.lst ys) ∧ DpAll K H ys (s.map dSt) ∧ (∀ p ∈ s, Spn.ok p) ∧ Spn.Bnd s ∧ s.length ≤ 5 ∧
  SpAt K C H p r 5 ∧ (∀ i, Spn.hasL s i ↔ Spn.hasL r i) ∧ ∀ H', Ex H H' → Q (.bl true) H'
section
variable {P : Program} {w : World} {K : PySem.W.Frag} {mg : Str → Option Value} {base : Heap} {C fI g_or g_and g_sub g_inv g_len g_in g_eq f_Spans_pairs f_Spans_many f_Spans_least f_Spans_within f_l_take f_l_alike f_l_lies f_l_ends f_l_are_told f_l_many f_l_nearest f_l_first_right : Addr} {fdI fd_Spans_pairs fd_Spans_many fd_Spans_least fd_Spans_within fd_l_take fd_l_alike fd_l_lies fd_l_ends fd_l_are_told fd_l_many fd_l_nearest fd_l_first_right : FuncData}
theorem ok_right {f : Addr} {fd : FuncData} (D : Def K mg "_law_right" s_l_right f fd ["_law_bag_here", "_law_spans", "_law_given"]) (bi : Bi mg) (T_Spans : SpansT K mg C fI)
    (SO : SpOps K C g_or g_and g_sub g_inv g_len g_in g_eq) (R_len : FnR P w K mg base CX0 1 g_len (spLenS K C)) (R_in_ : FnR P w K mg base CX0 1 g_in (spHas K C))
    (D_Spans_pairs : MDef K C "pairs" "Spans.pairs" s_Spans_pairs f_Spans_pairs fd_Spans_pairs ["self"])
    (G_Spans_pairs : FnOk P w K mg base CX0 1 f_Spans_pairs fd_Spans_pairs ["self"] (spPairs K C))
    (D_Spans_many : MDef K C "many" "Spans.many" s_Spans_many f_Spans_many fd_Spans_many ["self"])
    (G_Spans_many : FnOk P w K mg base CX0 1 f_Spans_many fd_Spans_many ["self"] (spMany K C))
    (D_Spans_least : MDef K C "least" "Spans.least" s_Spans_least f_Spans_least fd_Spans_least ["self"])
    (G_Spans_least : FnOk P w K mg base CX0 5 f_Spans_least fd_Spans_least ["self"] (spLeast K C))
    (D_Spans_within : MDef K C "within" "Spans.within" s_Spans_within f_Spans_within fd_Spans_within ["self", "low", "high"])
    (G_Spans_within : FnOk P w K mg base CX0 9 f_Spans_within fd_Spans_within ["self", "low", "high"] (spWithin K C))
    (D_l_take : Def K mg "_law_take" s_l_take f_l_take fd_l_take ["_law_bag_here", "_law_many_here"])
    (G_l_take : FnOk P w K mg base CX0 1 f_l_take fd_l_take ["_law_bag_here", "_law_many_here"] spTake)
    (D_l_alike : Def K mg "_law_alike" s_l_alike f_l_alike fd_l_alike ["_law_found", "_law_due"])
    (G_l_alike : FnQ P w K mg base CX0 1 f_l_alike fd_l_alike ["_law_found", "_law_due"] (spAlike K))
    (D_l_lies : Def K mg "_law_lies" s_l_lies f_l_lies fd_l_lies ["_law_pairs", "_law_number"])
    (G_l_lies : FnOk P w K mg base CX0 1 f_l_lies fd_l_lies ["_law_pairs", "_law_number"] (spLies K))
    (D_l_ends : Def K mg "_law_ends" s_l_ends f_l_ends fd_l_ends ["_law_pairs"])
    (G_l_ends : FnOk P w K mg base CX0 1 f_l_ends fd_l_ends ["_law_pairs"] (spEnds K))
    (D_l_are_told : Def K mg "_law_are_told" s_l_are_told f_l_are_told fd_l_are_told ["_law_pairs", "_law_listed"])
    (G_l_are_told : FnOk P w K mg base CX0 2 f_l_are_told fd_l_are_told ["_law_pairs", "_law_listed"] (spTold K))
    (D_l_many : Def K mg "_law_many" s_l_many f_l_many fd_l_many ["_law_listed"])
    (G_l_many : FnOk P w K mg base CX0 1 f_l_many fd_l_many ["_law_listed"] (spManyL K))
    (D_l_nearest : Def K mg "_law_nearest" s_l_nearest f_l_nearest fd_l_nearest ["_law_listed"])
    (G_l_nearest : FnOk P w K mg base CX0 2 f_l_nearest fd_l_nearest ["_law_listed"] (spNearL K))
    (D_l_first_right : Def K mg "_law_first_right" s_l_first_right f_l_first_right fd_l_first_right ["_law_given", "_law_listed"])
    (G_l_first_right : FnQ P w K mg base CX0 8 f_l_first_right fd_l_first_right ["_law_given", "_law_listed"] (spFirst K)) :
    FnQ P w K mg base CX0 10 f fd ["_law_bag_here", "_law_spans", "_law_given"] (spRight K C) := by
  refine fnq_ok D.fn sc_l_right (fun vs H Q E h => ?_) (fun cdv A outer s0 H vs Q E hr qu h => ?_)
  · obtain ⟨b, p, a, ys, s, r, rfl, _⟩ := h
    rfl
  · obtain ⟨b, p, a, ys, s, r, rfl, hb, ha, hd, ho, hB, hz, hp, hm, k⟩ := h
    have hu64 := hr.units
    refine ⟨_, (pss_cons (ps_set (i := 3) sc_l_right.nd rfl (Or.inl rfl) (pe_meth0 (pv 1) T_Spans.cl D_Spans_pairs.mt G_Spans_pairs (hr.mono (by first | decide | omega)) D_Spans_pairs.bd .nil pass0))
  (pss_cons (ps_if (pt_not (pt_val (pe_callQ G_l_first_right qu (hr.mono (by first | decide | omega)) rfl D_l_first_right.mg D_l_first_right.fn.kp D_l_first_right.bd pass0 (pa_cons (pv 2) (pa_cons (pv 3) pa_nil)))))
    (pss_one (ps_ret pe_bl))
    pss_nil)
  (pss_cons (ps_if (L2.PW.pt (pw_or (pt_not (pt_val (pe_call G_l_are_told (hr.mono (by first | decide | omega)) rfl D_l_are_told.mg D_l_are_told.fn.kp D_l_are_told.bd .nil pass0 (pa_cons (pv 2) (pa_cons (pv 3) pa_nil))))) (pw_or1 (pt_cmpR op_ne (pe_callB (call_lenI SO.len SO.lenf R_len (hr.mono (by first | decide | omega)) pass0) (by rfl) bi.len bt_len (pa_cons (pv 1) pa_nil)) (pe_callB call_len_seq (by rfl) bi.len bt_len (pa_cons (pv 3) pa_nil)) (nomark _)))))
    (pss_one (ps_ret pe_bl))
    pss_nil)
  (pss_cons (ps_if (pt_not (pt_val (pe_callQ G_l_alike qu (hr.mono (by first | decide | omega)) rfl D_l_alike.mg D_l_alike.fn.kp D_l_alike.bd pass0 (pa_cons (pe_lst (pa_cons (pe_meth0 (pv 1) T_Spans.cl D_Spans_many.mt G_Spans_many (hr.mono (by first | decide | omega)) D_Spans_many.bd .nil pass0) (pa_cons (pe_meth0 (pv 1) T_Spans.cl D_Spans_least.mt G_Spans_least (hr.mono (by first | decide | omega)) D_Spans_least.bd .nil pass0) pa_nil))) (pa_cons (pe_lst (pa_cons (pe_call G_l_many (hr.mono (by first | decide | omega)) rfl D_l_many.mg D_l_many.fn.kp D_l_many.bd .nil pass0 (pa_cons (pv 3) pa_nil)) (pa_cons (pe_call G_l_nearest (hr.mono (by first | decide | omega)) rfl D_l_nearest.mg D_l_nearest.fn.kp D_l_nearest.bd .nil pass0 (pa_cons (pv 3) pa_nil)) pa_nil))) pa_nil)))))
    (pss_one (ps_ret pe_bl))
    pss_nil)
  (pss_cons (ps_for PassesOwn.never rfl (pi_list (pe_op op_cat (pe_call G_l_ends (hr.mono (by first | decide | omega)) rfl D_l_ends.mg D_l_ends.fn.kp D_l_ends.bd .nil pass0 (pa_cons (pv 2) pa_nil)) (pe_listRg rfl rfl bi.list (prg_2 rfl bi.range (pe_un un_neg pe_int) pe_int)))) (pg_name (i := 4) sc_l_right.nd rfl (Or.inl rfl))
    (pss_one (ps_if (pt_not (pt_val (pe_callQ G_l_alike qu (hr.mono (by first | decide | omega)) rfl D_l_alike.mg D_l_alike.fn.kp D_l_alike.bd pass0 (pa_cons (pe_cmpR (op_inI SO.in_ SO.in_f R_in_ (hr.mono (by first | decide | omega)) pass0) (pv 4) (pv 1) (by rfl)) (pa_cons (pe_call G_l_lies (hr.mono (by first | decide | omega)) rfl D_l_lies.mg D_l_lies.fn.kp D_l_lies.bd .nil pass0 (pa_cons (pv 2) (pa_cons (pv 4) pa_nil))) pa_nil)))))
      (pss_one (ps_ret pe_bl))
      pss_nil)))
  (pss_cons (ps_asg (pe_tup (pa_cons (pe_op op_sub (pe_call G_l_take (hr.mono (by first | decide | omega)) rfl D_l_take.mg D_l_take.fn.kp D_l_take.bd .nil pass0 (pa_cons (pv 0) (pa_cons pe_int pa_nil))) pe_int) (pa_cons (pe_op op_sub (pe_call G_l_take (hr.mono (by first | decide | omega)) rfl D_l_take.mg D_l_take.fn.kp D_l_take.bd .nil pass0 (pa_cons (pv 0) (pa_cons pe_int pa_nil))) pe_int) pa_nil))) (pg_tup rfl (pgs_cons (pg_name (i := 5) sc_l_right.nd rfl (Or.inr rfl)) (pgs_cons (pg_name (i := 6) sc_l_right.nd rfl (Or.inr rfl)) pgs_nil))))
  (pss_cons (ps_asg (pe_tup (pa_cons (pe_callB (call_min2 rfl) (by rfl) bi.min bt_min (pa_cons (pv 5) (pa_cons (pv 6) pa_nil))) (pa_cons (pe_callB (call_max2 rfl) (by rfl) bi.max bt_max (pa_cons (pv 5) (pa_cons (pv 6) pa_nil))) pa_nil))) (pg_tup rfl (pgs_cons (pg_name (i := 5) sc_l_right.nd rfl (Or.inr rfl)) (pgs_cons (pg_name (i := 6) sc_l_right.nd rfl (Or.inr rfl)) pgs_nil))))
  (pss_cons (ps_setLc (i := 7) (own := [("_law_begin", 8), ("_law_end", 9)]) (g := gTup K 2 (gCons (gName 8) (gCons (gName 9) gNil))) rfl sc_l_right.nd rfl rfl (sw_true rfl rfl rfl (by decide +kernel)) (pi_list (pv 3)) (blkOk_by (N := ["_law_bag_here", "_law_spans", "_law_given", "_law_listed", "_law_number", "_law_low", "_law_high", "_law_cut", "_law_begin", "_law_end", "_law_pair"]) (sc := defScope s_l_right) (by decide +kernel)) (fun _ _ _ _ _ => (pg_tup rfl (pgs_cons (pg_name (i := 8) sc_l_right.nd rfl (Or.inl rfl)) (pgs_cons (pg_name (i := 9) sc_l_right.nd rfl (Or.inl rfl)) pgs_nil)))) (fun _ _ _ _ _ => pts_nil) (fun _ _ _ _ _ => (pe_tup (pa_cons (pe_callB (call_max2 rfl) (by rfl) bi.max bt_max (pa_cons (pv 5) (pa_cons (pe_ifExp (pt_cmpR op_notN (pv 8) pe_non (nomark _)) (pv 8) (pv 5)) pa_nil))) (pa_cons (pe_callB (call_min2 rfl) (by rfl) bi.min bt_min (pa_cons (pv 6) (pa_cons (pe_ifExp (pt_cmpR op_notN (pv 9) pe_non (nomark _)) (pv 9) (pv 6)) pa_nil))) pa_nil)))))
  (pss_cons (ps_if (pt_not (pt_val (pe_call G_l_are_told (hr.mono (by first | decide | omega)) rfl D_l_are_told.mg D_l_are_told.fn.kp D_l_are_told.bd .nil pass0 (pa_cons (pe_lc (own := [("_law_pair", 10)]) rfl sc_l_right.nd (pi_list (pv 7)) (blkOk_by (N := ["_law_bag_here", "_law_spans", "_law_given", "_law_listed", "_law_number", "_law_low", "_law_high", "_law_cut", "_law_begin", "_law_end", "_law_pair"]) (sc := defScope s_l_right) (by decide +kernel)) (fun _ _ _ _ _ => (pg_name (i := 10) sc_l_right.nd rfl (Or.inl rfl))) (fun _ _ _ _ _ => (pts_one (pt_cmpR op_le (pe_ix (ix_tupK (K := K) rfl) (pv 10) pe_int (fun _ _ => rfl)) (pe_ix (ix_tupK (K := K) rfl) (pv 10) pe_int (fun _ _ => rfl)) (nomark _)))) (fun _ _ _ _ _ => (pv 10))) (pa_cons (pe_meth0 (pe_meth (pv 1) T_Spans.cl D_Spans_within.mt G_Spans_within (hr.mono (by first | decide | omega)) D_Spans_within.bd .nil pass0 (pa_cons (pv 5) (pa_cons (pv 6) pa_nil))) T_Spans.cl D_Spans_pairs.mt G_Spans_pairs (hr.mono (by first | decide | omega)) D_Spans_pairs.bd .nil pass0) pa_nil)))))
    (pss_one (ps_ret pe_bl))
    pss_nil)
  (pss_cons (ps_expr (pe_bm PySem.F.plainAttrs_list PySem.F.slot_list_append PySem.F.type_list_append mt_append (pv 3) (pa_cons pe_non pa_nil)))
  (pss_one (ps_ret (pe_cmpR (op_eqD hu64) (pe_slice sl_list (pv 3) po_none (po_some (pe_un un_neg pe_int))) (pe_meth0 (pv 1) T_Spans.cl D_Spans_pairs.mt G_Spans_pairs (hr.mono (by first | decide | omega)) D_Spans_pairs.bd .nil pass0) (nomark _)))))))))))))), ?_⟩
    have nmp : (("pairs" : Str) == ("_stretches" : Str)) = false := by decide +kernel
    have nmm : (("many" : Str) == ("_stretches" : Str)) = false := by decide +kernel
    have nml : (("least" : Str) == ("_stretches" : Str)) = false := by decide +kernel
    have nmw : (("within" : Str) == ("_stretches" : Str)) = false := by decide +kernel
    have rz : r.length ≤ 5 := hp.2.2
    have cn := hp.2.1
    obtain ⟨b1, hb9, wd⟩ : ∃ b, b ≤ 900 ∧ Spn.Wd (2 ^ b) r := ⟨201, by decide, ((bnd_ev hB).congr fun i => (hm i).symm).wd cn (by decide)⟩
    obtain ⟨d1, f1, h1, h2⟩ := at_sp nmp hp
    refine ⟨_, rfl, p, d1, f1, rfl, h1, h2, p, r, _, rfl, hp, fun l xs H1 e1 nl hl hdl => ?_⟩
    have xl : xs.length = r.length := sts_len hdl
    refine ⟨_, rfl, _, rfl, a, l, xs, s, r, rfl, ⟨ys, SqL.of (e1 _ _ ha), hd.to e1⟩, ho, hB, hz, hl, hdl, cn, hm, rz, fun H2 e2 => ⟨_, rfl, if_f rfl ?_⟩⟩
    have e02 := e1.trans e2
    have hl2 := e2 _ _ hl
    have hdl2 := hdl.to e2
    have rl : StsB false K H2 l r := ⟨xs, SqL.of hl2, hdl2⟩
    refine ⟨_, rfl, _, rfl, a, l, ys, s, r, rfl, e02 _ _ ha, hd.to e02, rl, cn, hm, by omega, by omega, fun H3 e3 => ⟨_, rfl, ?_⟩⟩
    refine if_f rfl ?_
    have e03 := e02.trans e3
    have hp3 := hp.to e03
    obtain ⟨⟨d3, t3, h3, _⟩, _⟩ := id hp3
    refine ⟨_, rfl, p, d3, _, rfl, h3, p, r, _, rfl, hp3, r.length, rfl, Nat.le_trans rz (by rw [sizeLine_eq]; decide), ?_⟩
    refine ⟨_, rfl, l, xs, rfl, .inl (SqL.of (e3 _ _ hl2)), ?_⟩
    rw [xl]
    refine ⟨rfl, _, rfl, ?_⟩
    refine if_f (by simp) ?_
    -- many and least
    obtain ⟨dm, fm, m1, m2⟩ := at_sp nmm hp3
    refine ⟨_, rfl, p, dm, fm, rfl, m1, m2, p, r, _, rfl, hp3, by decide, fun H4 e4 => ?_⟩
    have hp4 := hp3.to e4
    obtain ⟨dn, fn, n1, n2⟩ := at_sp nml hp4
    refine ⟨_, rfl, p, dn, fn, rfl, n1, n2, p, r, _, rfl, hp4, by decide, fun o H5 ho5 e5 => ⟨sz2, fun F nF => ?_⟩⟩
    have X_H6 : Ex H5 (upd H5 F (.lst [vO (manyO r), vO o])) := Ex.new nF
    have F_H6 : upd H5 F (.lst [vO (manyO r), vO o]) F = some (.lst [vO (manyO r), vO o]) := upd_same
    generalize upd H5 F (.lst [vO (manyO r), vO o]) = H6 at X_H6 F_H6 ⊢
    have e36 := (e4.trans e5).trans X_H6
    have hl6 := (e3.trans e36) _ _ hl2
    have hd6 := hdl2.to (e3.trans e36)
    refine ⟨_, rfl, l, xs, r, rfl, hl6, hd6, by omega, fun H7 e7 => ?_⟩
    refine ⟨_, rfl, l, xs, r, rfl, e7 _ _ hl6, hd6.to e7, cn.ok, by omega, fun o2 H8 ho8 e8 => ⟨sz2, fun G nG => ?_⟩⟩
    obtain rfl := Spn.leastO_one ho5 ho8
    have X_H9 : Ex H8 (upd H8 G (.lst [vO (manyO r), vO o])) := Ex.new nG
    have F_H9 : upd H8 G (.lst [vO (manyO r), vO o]) G = some (.lst [vO (manyO r), vO o]) := upd_same
    generalize upd H8 G (.lst [vO (manyO r), vO o]) = H9 at X_H9 F_H9 ⊢
    obtain ⟨q1, q2, q3⟩ := first_ok hb9 wd (by omega) (least_lt wd hb9 cn.ok ho5)
    obtain ⟨q1, q2, q3⟩ := two_ok q1 q2
    have e69 := (e7.trans e8).trans X_H9
    refine ⟨.ref F, .ref G, .list [dO (manyO r), dO o], rfl, .lst (SqL.of (e69 _ _ F_H6)) (.cons (dp_vO _) (.cons (dp_vO _) .nil)), .lst (SqL.of F_H9) (.cons (dp_vO _) (.cons (dp_vO _) .nil)), q1, q2, q3, _, rfl, if_f rfl ?_⟩
    have e09 := (e03.trans e36).trans e69
    have e39 := e36.trans e69
    clear e7 e8 X_H9 F_H9 F_H6 e36 e69
    -- each number
    refine ⟨_, rfl, a, false, s, rfl, ⟨ys, SqL.of (e09 _ _ ha), hd.to e09⟩, by omega, fun v H10 e10 hv => ?_⟩
    refine ⟨20, rfl, -20, 21, rfl, rfl, ⟨by decide, by decide, by decide, by decide⟩, fun l2 nl2 => ?_⟩
    have re : rgV (-20) 21 = ((List.range 41).map fun k => (-20 : Int) + (k : Nat)).map V.int := by unfold rgV; rw [List.map_map]; rfl
    rw [re]
    generalize hR : ((List.range 41).map fun k => (-20 : Int) + (k : Nat)) = rs
    have rsl : rs.length = 41 := by rw [← hR, List.length_map, List.length_range]
    clear hR
    have X_H11 : Ex H10 (upd H10 l2 (.lst (rs.map V.int))) := Ex.new nl2
    have F_H11 : upd H10 l2 (.lst (rs.map V.int)) l2 = some (.lst (rs.map V.int)) := upd_same
    generalize upd H10 l2 (.lst (rs.map V.int)) = H11 at X_H11 F_H11 ⊢
    have el : (Spn.endsOf s).length ≤ 35 := by
      have := Spn.ends_len s s.length
      rw [List.take_length] at this
      unfold Spn.endsOf
      rw [List.length_append]
      simp only [List.length_cons, List.length_nil]
      omega
    generalize Spn.endsOf s = es at el hv ⊢
    refine ⟨v, l2, _, _, rfl, rfl, X_H11 _ _ hv, F_H11, by rw [List.length_map, List.length_map, sizeLine_eq]; omega, fun l3 nl3 => ?_⟩
    rw [← List.map_append]
    generalize es ++ rs = ns
    have X_H12 : Ex H11 (upd H11 l3 (.lst (ns.map V.int))) := Ex.new nl3
    have F_H12 : upd H11 l3 (.lst (ns.map V.int)) l3 = some (.lst (ns.map V.int)) := upd_same
    generalize upd H11 l3 (.lst (ns.map V.int)) = H12 at X_H12 F_H12 ⊢
    have e912 := (e10.trans X_H11).trans X_H12
    refine ⟨l3, rfl, ⟨_, SqL.of F_H12⟩, ?_⟩
    refine for_list (xs := ns.map V.int) (fun i σ G => ∃ x4 : Option V, σ = [some (.ref b), some (.ref p), some (.ref a), some (.ref l), x4, none, none, none, none, none, none] ∧ Ex H12 G) ?_ (fun i σ G _ z => ?_) ?_ ?_
    · exact ⟨none, rfl, Ex.refl _⟩
    · obtain ⟨_, _, e⟩ := z
      exact SqL.of (e _ _ F_H12)
    · rintro i x σ G hx ⟨x4, rfl, eG⟩
      rw [List.getElem?_map] at hx
      obtain ⟨n, hn, rfl⟩ := Option.map_eq_some_iff.mp hx
      have e0G := (e09.trans e912).trans eG
      have hpG := hp.to e0G
      obtain ⟨⟨dG, tG, hG, _⟩, _⟩ := id hpG
      refine ⟨_, rfl, _, rfl, p, dG, _, rfl, hG, p, r, _, n, rfl, hpG, ?_⟩
      refine ⟨_, rfl, _, rfl, _, rfl, a, false, s, n, rfl, ⟨ys, SqL.of (e0G _ _ ha), hd.to e0G⟩, fun H14 e14 => ?_⟩
      have same : Spn.lies s n = Spn.holds r n := by rw [Bool.eq_iff_iff, Spn.lies_iff, Spn.holds_iff cn, hm]
      rw [same]
      refine ⟨_, _, .bool (Spn.holds r n), rfl, .bl _, .bl _, rfl, rfl, by cases Spn.holds r n <;> decide, _, rfl, if_f rfl ⟨_, rfl, eG.trans e14⟩⟩
    rintro σ H13 ⟨x4, rfl, e13⟩
    have e013 := (e09.trans e912).trans e13
    have hb13 := hb.to e013
    refine ⟨_, rfl, b, 30, rfl, hb13, by decide, by decide, fun u u0 u1 => ⟨u, 15, rfl, rfl, ?_⟩⟩
    refine ⟨_, rfl, b, 30, rfl, hb13, by decide, by decide, fun v2 v0 v1 => ⟨v2, 15, rfl, rfl, sz2, fun t1 n1 => ?_⟩⟩
    have X_H14 : Ex H13 (upd H13 t1 (.tup [.int (u - 15), .int (v2 - 15)])) := Ex.new n1
    have F_H14 : upd H13 t1 (.tup [.int (u - 15), .int (v2 - 15)]) t1 = some (.tup [.int (u - 15), .int (v2 - 15)]) := upd_same
    generalize upd H13 t1 (.tup [.int (u - 15), .int (v2 - 15)]) = H14 at X_H14 F_H14 ⊢
    refine ⟨t1, _, rfl, SqT.of F_H14, rfl, _, _, rfl, _, _, rfl, rfl, ?_⟩
    refine ⟨_, rfl, _, rfl, _, _, rfl, _, rfl, _, rfl, _, _, rfl, sz2, fun t2 n2 => ?_⟩
    generalize u - 15 = lo0
    generalize v2 - 15 = hi0
    obtain ⟨lo, hi, elo, ehi, lh⟩ : ∃ lo hi : Int, (if hi0 < lo0 then hi0 else lo0) = lo ∧ (if hi0 > lo0 then hi0 else lo0) = hi ∧ lo ≤ hi := ⟨_, _, rfl, rfl, by split <;> split <;> omega⟩
    rw [elo, ehi]
    clear elo ehi
    have X_H15 : Ex H14 (upd H14 t2 (.tup [.int lo, .int hi])) := Ex.new n2
    have F_H15 : upd H14 t2 (.tup [.int lo, .int hi]) t2 = some (.tup [.int lo, .int hi]) := upd_same
    generalize upd H14 t2 (.tup [.int lo, .int hi]) = H15 at X_H15 F_H15 ⊢
    refine ⟨t2, _, rfl, SqT.of F_H15, rfl, _, _, rfl, _, _, rfl, rfl, ?_⟩
    have e015 := (e013.trans X_H14).trans X_H15
    have e115 : Ex H1 H15 := ((((e2.trans e3).trans e39).trans e912).trans e13).trans (X_H14.trans X_H15)
    have hl15 := e115 _ _ hl
    have hd15 := hdl.to e115
    refine ⟨_, rfl, l, rfl, ⟨_, SqL.of hl15⟩, fun D nD => ?_⟩
    refine lc_dp (t := false) (fun i => (r[i]?).bind fun q => some (dSt (cutS lo hi q))) nD (SqL.of hl15) (by rw [xl]; exact small (by omega)) ?_ ?_
    · rintro i x H16 N M hx e16 hN hM
      obtain ⟨⟨qb, qe⟩, tq, hpi, rfl, hs⟩ := sts_get hd15 hx
      refine ⟨tq, _, rfl, ex_t e16 hs, rfl, _, _, rfl, _, _, rfl, rfl, ?_⟩
      cases qb with
      | none =>
        cases qe with
        | none => exact ⟨rfl, _, rfl, _, rfl, rfl, _, rfl, if_f rfl ⟨_, rfl, _, _, rfl, _, rfl, _, rfl, rfl, _, rfl, if_f rfl ⟨_, rfl, _, _, rfl, sz2, fun T nT => hN _ _ (dSt (cutS lo hi (none, none))) (Ex.new nT) (by rw [hpi]; rfl) (dSt_flat _) (dSt_mk (p := cutS lo hi (none, none)) (SqT.of upd_same))⟩⟩⟩
        | some qe => exact ⟨rfl, _, rfl, _, rfl, rfl, _, rfl, if_f rfl ⟨_, rfl, _, _, rfl, _, rfl, _, rfl, rfl, _, rfl, if_t rfl ⟨_, rfl, _, _, rfl, sz2, fun T nT => hN _ _ (dSt (cutS lo hi (none, some qe))) (Ex.new nT) (by rw [hpi]; rfl) (dSt_flat _) (dSt_mk (p := cutS lo hi (none, some qe)) (SqT.of upd_same))⟩⟩⟩
      | some qb =>
        cases qe with
        | none => exact ⟨rfl, _, rfl, _, rfl, rfl, _, rfl, if_t rfl ⟨_, rfl, _, _, rfl, _, rfl, _, rfl, rfl, _, rfl, if_f rfl ⟨_, rfl, _, _, rfl, sz2, fun T nT => hN _ _ (dSt (cutS lo hi (some qb, none))) (Ex.new nT) (by rw [hpi]; rfl) (dSt_flat _) (dSt_mk (p := cutS lo hi (some qb, none)) (SqT.of upd_same))⟩⟩⟩
        | some qe => exact ⟨rfl, _, rfl, _, rfl, rfl, _, rfl, if_t rfl ⟨_, rfl, _, _, rfl, _, rfl, _, rfl, rfl, _, rfl, if_t rfl ⟨_, rfl, _, _, rfl, sz2, fun T nT => hN _ _ (dSt (cutS lo hi (some qb, some qe))) (Ex.new nT) (by rw [hpi]; rfl) (dSt_flat _) (dSt_mk (p := cutS lo hi (some qb, some qe)) (SqT.of upd_same))⟩⟩⟩
    intro H16 zs e16 hz16 hd16
    rw [xl, outs_bind, List.filterMap_eq_map'] at hd16
    have hd16 : DpAll K H16 zs ((r.map (cutS lo hi)).map dSt) := by rw [List.map_map]; exact hd16
    have zl : zs.length = (r.map (cutS lo hi)).length := sts_len hd16
    have cl : (r.map (cutS lo hi)).length ≤ 5 := by rw [List.length_map]; exact rz
    have cm : ∀ q ∈ r.map (cutS lo hi), ∃ q0 ∈ r, q = cutS lo hi q0 := fun q hq => by
      obtain ⟨q0, h0, e⟩ := List.mem_map.mp hq
      exact ⟨q0, h0, e.symm⟩
    refine ⟨_, rfl, D, rfl, ⟨_, SqL.of hz16⟩, fun D2 nD2 => ?_⟩
    refine lc_dp (t := false) (fun i => ((r.map (cutS lo hi))[i]?).bind fun q => if flat q = true then some (dSt q) else none) nD2 (SqL.of hz16) (by rw [zl]; exact small (by omega)) ?_ ?_
    · rintro i x H17 N M hx e17 hN hM
      obtain ⟨q, tq, hpi, rfl, hs⟩ := sts_get hd16 hx
      obtain ⟨q0, h0, rfl⟩ := cm q (List.mem_of_getElem? hpi)
      have cv : (((r.map (cutS lo hi))[i]?).bind fun q => if flat q = true then some (dSt q) else none) = if flat (cutS lo hi q0) = true then some (dSt (cutS lo hi q0)) else none := by rw [hpi]; rfl
      have hs17 := ex_t e17 hs
      refine ⟨rfl, _, rfl, tq, _, 0, _, rfl, rfl, hs17, rfl, _, rfl, tq, _, 1, _, rfl, rfl, hs17, rfl, ?_⟩
      refine ⟨_, _, rfl, rfl, _, rfl, ?_⟩
      cases hf : flat (cutS lo hi q0) with
      | true => exact if_t hf ⟨_, rfl, hN _ _ (dSt (cutS lo hi q0)) (Ex.refl _) (by rw [cv, hf]; rfl) (dSt_flat _) (dSt_mk hs17)⟩
      | false => exact if_f hf (hM (by rw [cv, hf]; rfl) _ (Ex.refl _))
    intro H17 ws e17 hw17 hd17
    rw [zl, outs_bind, fm_if] at hd17
    have e017 := (e015.trans e16).trans e17
    have e117 := (e115.trans e16).trans e17
    have hp17 := hp.to e017
    obtain ⟨dw, fw, w1, w2⟩ := at_sp nmw hp17
    refine ⟨_, rfl, p, dw, fw, rfl, w1, w2, _, rfl, _, rfl, p, r, _, lo, hi, rfl, hp17, lh, by decide, fun x s' H18 e18 gx mx => ?_⟩
    obtain ⟨dx, fx, x1, x2⟩ := at_sp nmp gx
    refine ⟨x, dx, fx, rfl, x1, x2, x, s', _, rfl, gx, fun l5 ys5 H19 e19 nl5 hl5 hd5 => ?_⟩
    have e1719 := e18.trans e19
    refine ⟨D2, l5, ws, _, s', rfl, e1719 _ _ hw17, hd17.to e1719, ⟨ys5, SqL.of hl5, hd5⟩, gx.2.1, fun i => by rw [cut_has lh, mx], Nat.le_trans (List.length_filter_le _ _) (by omega), Nat.le_trans gx.2.2 (by decide), fun H20 e20 => ⟨_, rfl, if_f rfl ?_⟩⟩
    have e020 := (e017.trans e1719).trans e20
    have hl20 := (e117.trans (e1719.trans e20)) _ _ hl
    have hd20 := hdl.to (e117.trans (e1719.trans e20))
    refine ⟨_, rfl, .inl ⟨rfl, _, SqL.of hl20⟩, l, xs, .non, rfl, rfl, hl20, by rw [sizeLine_eq]; omega, ?_⟩
    have x21 : ExI H20 (upd H20 l (.lst (xs ++ [.non]))) := ExI.put hl20 rfl
    have e021 : Ex H (upd H20 l (.lst (xs ++ [.non]))) := e020.mut nl
    have hl21 : upd H20 l (.lst (xs ++ [.non])) l = some (.lst (xs ++ [.non])) := upd_same
    have hd21 := dpAll_exI x21 _ _ (dSts_flat r) hd20
    generalize upd H20 l (.lst (xs ++ [.non])) = H21 at e021 hl21 hd21 ⊢
    refine ⟨_, rfl, 1, rfl, _, rfl, l, _, rfl, SqL.of hl21, fun c nc => ?_⟩
    rw [show (-(1 : Int)) = -1 from rfl, cut_init]
    have X_H22 : Ex H21 (upd H21 c (.lst xs)) := Ex.new nc
    have F_H22 : upd H21 c (.lst xs) c = some (.lst xs) := upd_same
    generalize upd H21 c (.lst xs) = H22 at X_H22 F_H22 ⊢
    have hp22 := hp.to (e021.trans X_H22)
    obtain ⟨dy, fy, y1, y2⟩ := at_sp nmp hp22
    refine ⟨_, rfl, p, dy, fy, rfl, y1, y2, p, r, _, rfl, hp22, fun l6 ys6 H23 e23 nl6 hl6 hd6 => ?_⟩
    refine ⟨.list (r.map dSt), .list (r.map dSt), .lst (SqL.of (e23 _ _ F_H22)) (hd21.to (X_H22.trans e23)), .lst (SqL.of hl6) hd6, (dSts_shaped _).2, (dSts_shaped _).2, ?_⟩
    rw [SeqAt.eqv_refl _ (SeqAt.canLay_of_shaped (dSts_shaped r).2)]
    exact k _ ((e021.trans X_H22).trans e23)
end
end K12

set_option Elab.async false
set_option linter.all false
/-! the stretches 0 .. 1, 3 .. 4, 6 .. 7 and so on -/
namespace Gx.Spn
def thrice (n : Nat) : List Sx := (List.range n).map fun k : Nat => (some (3 * (k : Int)), some (3 * (k : Int) + 1))
theorem thrice_len (n : Nat) : (thrice n).length = n := by unfold thrice; rw [List.length_map, List.length_range]
theorem thrice_mem {n : Nat} {p : Sx} (h : p ∈ thrice n) : ∃ k : Nat, k < n ∧ p = (some (3 * (k : Int)), some (3 * (k : Int) + 1)) := by
  obtain ⟨k, hk, rfl⟩ := List.mem_map.mp h
  exact ⟨k, List.mem_range.mp hk, rfl⟩
theorem thrice_ok {n : Nat} : ∀ p ∈ thrice n, Spn.ok p := fun p h => by
  obtain ⟨k, _, rfl⟩ := thrice_mem h
  unfold Spn.ok
  intro a b ea eb
  cases ea; cases eb
  show 3 * (k : Int) ≤ 3 * (k : Int) + 1
  omega
theorem thrice_canon (n : Nat) : Canon (thrice n) := by
  refine ⟨thrice_ok, List.pairwise_map.mpr ?_⟩
  refine List.Pairwise.imp ?_ List.pairwise_lt_range
  intro a b h
  exact ⟨_, _, rfl, rfl, by omega⟩
theorem gapsGo_len : ∀ {p : Sx} {r : List Sx}, (∀ q ∈ p :: r, q.2.isSome = true) → (gapsGo p r).length = r.length + 1
  | (a, none), [], h => by have := h _ (List.mem_cons_self ..); simp at this
  | (a, some u), [], _ => rfl
  | p, q :: r, h => by
    show (gapsGo q r).length + 1 = _
    rw [gapsGo_len (fun z hz => h z (List.mem_cons_of_mem _ hz))]
    rfl
theorem thrice_gaps {n : Nat} (h : 0 < n) : (gaps (thrice n)).length = n + 1 := by
  have all : ∀ q ∈ thrice n, q.2.isSome = true := fun q hq => by obtain ⟨k, _, rfl⟩ := thrice_mem hq; rfl
  have len := thrice_len n
  have first : ∃ l u r, thrice n = (some l, some u) :: r := by
    cases e : thrice n with
    | nil => rw [e] at len; simp at len; omega
    | cons p r =>
      obtain ⟨k, _, rfl⟩ := thrice_mem (p := p) (n := n) (by rw [e]; exact List.mem_cons_self)
      exact ⟨_, _, r, rfl⟩
  obtain ⟨l, u, r, e⟩ := first
  unfold gaps
  rw [e] at all len ⊢
  rw [if_neg (by simp), List.append_assoc, ← gapsGo_eq, List.length_append, gapsGo_len all]
  have : below ((some l, some u) :: r) = [(none, some (l - 1))] := rfl
  rw [this]
  simp at len ⊢
  omega
theorem thrice_cnt (n : Nat) : cnt (thrice n) = 2 * n := by
  unfold cnt thrice
  rw [List.map_map]
  have e : (cnt1 ∘ fun k : Nat => ((some (3 * (k : Int)), some (3 * (k : Int) + 1)) : Sx)) = fun _ => (2 : Int) := by
    funext k
    show cnt1 (some (3 * (k : Int)), some (3 * (k : Int) + 1)) = 2
    unfold cnt1
    simp
    try omega
  rw [e]
  induction n with
  | zero => rfl
  | succ n ih =>
    rw [List.range_succ, List.map_append, List.sum_append, ih]
    simp
    try omega
theorem thrice_fin (n : Nat) : fin (thrice n) = true := by
  unfold fin
  rw [List.all_eq_true]
  intro q hq
  obtain ⟨k, _, rfl⟩ := thrice_mem hq
  rfl
theorem thrice_wd {n : Nat} (h : n ≤ 400) : Wd (2 ^ 11) (thrice n) := fun q hq => by
  obtain ⟨k, hk, rfl⟩ := thrice_mem hq
  have : (2 : Nat) ^ 11 = 2048 := by decide
  rw [this]
  exact ⟨fun l e => by cases e; omega, fun l e => by cases e; omega⟩
end Gx.Spn

set_option Elab.async false
set_option linter.all false
set_option maxRecDepth 100000
set_option maxHeartbeats 8000000
namespace K12
open PySem PySem.Spec PyProof.Rows L2 Evl Gx RZ
abbrev s_law : Stmt := topS 34
theorem sc_law : FnScope ["_law_script", "_law_bag_here", "_law_turn", "_law_given", "_law_passed", "_law_spans", "_law_again", "_law_some", "_law_k", "_law_many_here"] ["_law_script"] (defScope s_law) := ⟨rfl, rfl, rfl, by decide +kernel, rfl, by decide +kernel, by decide +kernel⟩
def spLaw (K : PySem.W.Frag) : Sp := fun vs H Q _ => ∃ (a : Addr) (ns : List Int), vs = [.ref a] ∧ SqL K H a (ns.map V.int) ∧ ns.length ≤ 63 ∧ ∀ H', Q (.bl true) H'
theorem SpAt.put {K : PySem.W.Frag} {C : Addr} {H : Hp} {p l : Addr} {s : List Sx} {n : Nat} {xs ys : List V} (h : SpAt K C H p s n) (hl : H l = some (.lst xs)) : SpAt K C (upd H l (.lst ys)) p s n := by
  obtain ⟨⟨dx, t, h1, h2⟩, h3⟩ := h
  exact ⟨⟨dx, t, by rw [upd_ne (fun z => by subst z; rw [h1] at hl; cases hl)]; exact h1, h2.toI (ExI.put hl rfl)⟩, h3⟩
theorem dpAll_rev {K : PySem.W.Frag} {H : Hp} : ∀ {vs : List V} {ds : List PyData}, DpAll K H vs ds → DpAll K H vs.reverse ds.reverse
  | [], _, h => by cases h; exact .nil
  | v :: vs, _, h => by
    cases h with
    | cons a b => rw [List.reverse_cons, List.reverse_cons]; exact (dpAll_rev b).app (.one a)
theorem many_ok {n : Nat} (h : n ≤ 400) :
    SeqAt.shaped (.list [.list ((Spn.thrice n).map dSt), .int (2 * n), .int (n + 1)]) = true ∧ PyData.showable (.list [.list ((Spn.thrice n).map dSt), .int (2 * n), .int (n + 1)]) = true ∧ wide (.list [.list ((Spn.thrice n).map dSt), .int (2 * n), .int (n + 1)]) ≤ 10000000 := by
  obtain ⟨h1, h2⟩ := dSts_can (Spn.thrice n)
  have b11 : (2 : Nat) ^ 11 = 2048 := by decide
  refine ⟨?_, ?_, ?_⟩
  · unfold SeqAt.shaped
    have e2 : PyData.canLay0 (.list [.list ((Spn.thrice n).map dSt), .int (2 * n), .int (n + 1)]) = true := by simp [PyData.canLay0, PyData.canLayAll0, h1]
    rw [e2, Bool.true_and]
    refine decide_eq_true ?_
    simp only [PyData.depth, PyData.depthAll]
    omega
  · have e1 := sts_show (by decide : 11 ≤ 1900) (Spn.thrice_wd h)
    have e2 : (PyData.int (2 * n)).showable = true := decide_eq_true (log_lt (b := 11) (by omega) (by decide))
    have e3 : (PyData.int (n + 1)).showable = true := decide_eq_true (log_lt (b := 11) (by omega) (by decide))
    simp only [PyData.showable, PyData.showableAll, e1, Bool.and_true, Bool.true_and, Bool.and_eq_true]
    exact ⟨e2, e3⟩
  · have e1 := sts_wide (Spn.thrice n)
    rw [Spn.thrice_len] at e1
    simp only [wide, wide.wideAll]
    omega
section
variable {P : Program} {w : World} {K : PySem.W.Frag} {mg : Str → Option Value} {base : Heap} {C fI g_or g_and g_sub g_inv g_len g_in g_eq f_l_bag f_l_take f_l_drawn_pairs f_l_right f_l_alike f_Spans_pairs f_Spans_many f_Spans_least : Addr} {fdI fd_l_bag fd_l_take fd_l_drawn_pairs fd_l_right fd_l_alike fd_Spans_pairs fd_Spans_many fd_Spans_least : FuncData}
theorem ok_law {f : Addr} {fd : FuncData} (D : Def K mg "law" s_law f fd ["_law_script"]) (bi : Bi mg) (T_Spans : SpansT K mg C fI)
    (SO : SpOps K C g_or g_and g_sub g_inv g_len g_in g_eq) (R_len : FnR P w K mg base CX0 1 g_len (spLenS K C)) (R_inv : FnR P w K mg base CX0 9 g_inv (spInv K C))
    (D_Spans___init : MDef K C "__init__" "Spans.__init__" s_Spans___init fI fdI ["self", "pairs"])
    (G_Spans___init : FnOk P w K mg base (L2.CX P w) 6 fI fdI ["self", "pairs"] (spSpansI K C))
    (D_Spans_pairs : MDef K C "pairs" "Spans.pairs" s_Spans_pairs f_Spans_pairs fd_Spans_pairs ["self"])
    (G_Spans_pairs : FnOk P w K mg base CX0 1 f_Spans_pairs fd_Spans_pairs ["self"] (spPairs K C))
    (D_Spans_many : MDef K C "many" "Spans.many" s_Spans_many f_Spans_many fd_Spans_many ["self"])
    (G_Spans_many : FnOk P w K mg base CX0 1 f_Spans_many fd_Spans_many ["self"] (spMany K C))
    (D_Spans_least : MDef K C "least" "Spans.least" s_Spans_least f_Spans_least fd_Spans_least ["self"])
    (G_Spans_least : FnOk P w K mg base CX0 5 f_Spans_least fd_Spans_least ["self"] (spLeast K C))
    (D_l_bag : Def K mg "_law_bag" s_l_bag f_l_bag fd_l_bag ["_law_script"])
    (G_l_bag : FnOk P w K mg base CX0 1 f_l_bag fd_l_bag ["_law_script"] (spBag K))
    (D_l_take : Def K mg "_law_take" s_l_take f_l_take fd_l_take ["_law_bag_here", "_law_many_here"])
    (G_l_take : FnOk P w K mg base CX0 1 f_l_take fd_l_take ["_law_bag_here", "_law_many_here"] spTake)
    (D_l_drawn_pairs : Def K mg "_law_drawn_pairs" s_l_drawn_pairs f_l_drawn_pairs fd_l_drawn_pairs ["_law_bag_here"])
    (G_l_drawn_pairs : FnOk P w K mg base CX0 2 f_l_drawn_pairs fd_l_drawn_pairs ["_law_bag_here"] (spDrawn K))
    (D_l_alike : Def K mg "_law_alike" s_l_alike f_l_alike fd_l_alike ["_law_found", "_law_due"])
    (G_l_alike : FnQ P w K mg base CX0 1 f_l_alike fd_l_alike ["_law_found", "_law_due"] (spAlike K))
    (D_l_right : Def K mg "_law_right" s_l_right f_l_right fd_l_right ["_law_bag_here", "_law_spans", "_law_given"])
    (G_l_right : FnQ P w K mg base CX0 10 f_l_right fd_l_right ["_law_bag_here", "_law_spans", "_law_given"] (spRight K C)) :
    FnQ P w K mg base CX0 12 f fd ["_law_script"] (spLaw K) := by
  refine fnq_ok D.fn sc_law (fun vs H Q E h => ?_) (fun cdv A outer s0 H vs Q E hr qu h => ?_)
  · obtain ⟨a, ns, rfl, _⟩ := h
    rfl
  · obtain ⟨a, ns, rfl, ha, hz, k⟩ := h
    have hu64 := hr.units
    refine ⟨_, (pss_cons (ps_set (i := 1) sc_law.nd rfl (Or.inl rfl) (pe_call G_l_bag (hr.mono (by first | decide | omega)) rfl D_l_bag.mg D_l_bag.fn.kp D_l_bag.bd .nil pass0 (pa_cons (pv 0) pa_nil)))
  (pss_cons (ps_for PassesOwn.never rfl (pi_range1 rfl bi.range (pa_cons pe_int pa_nil)) (pg_name (i := 2) sc_law.nd rfl (Or.inl rfl))
    (pss_cons (ps_set (i := 3) sc_law.nd rfl (Or.inl rfl) (pe_call G_l_drawn_pairs (hr.mono (by first | decide | omega)) rfl D_l_drawn_pairs.mg D_l_drawn_pairs.fn.kp D_l_drawn_pairs.bd .nil pass0 (pa_cons (pv 1) pa_nil)))
    (Evl.pss_cut (ps_set (i := 4) sc_law.nd rfl (Or.inl rfl) (pe_ix ix_list (pe_lst (pa_cons (pe_callTy call_list_of (by rfl) bi.list bt_list (pa_cons (pv 3) pa_nil)) (pa_cons (pe_callTy call_tuple_of (by rfl) bi.tuple bt_tuple (pa_cons (pv 3) pa_nil)) pa_nil))) (pe_call G_l_take (hr.mono (by first | decide | omega)) rfl D_l_take.mg D_l_take.fn.kp D_l_take.bd .nil pass0 (pa_cons (pv 1) (pa_cons pe_int pa_nil))) (fun _ _ => rfl)))
    (pss_cons (ps_set (i := 5) sc_law.nd rfl (Or.inl rfl) (pe_make T_Spans.mak G_Spans___init (hr.mono (by first | decide | omega)) rfl T_Spans.gC D_Spans___init.bd .nil passL (pa_cons (pv 4) pa_nil)))
    (Evl.pss_cut (ps_if (pt_val (pe_callB call_isi (by rfl) bi.isinstance bt_isinstance (pa_cons (pv 4) (pa_cons (pe_bltn (v := .ty "list") rfl bi.list bt_list rfl) pa_nil))))
      (pss_one (ps_expr (pe_bm PySem.F.plainAttrs_list PySem.F.slot_list_append PySem.F.type_list_append mt_append (pv 4) (pa_cons (pe_tup (pa_cons (pe_un un_neg pe_int) (pa_cons pe_int pa_nil))) pa_nil))))
      pss_nil)
    (pss_one (ps_for PassesOwn.never rfl (pi_range1 rfl bi.range (pa_cons pe_int pa_nil)) (pg_name (i := 6) sc_law.nd rfl (Or.inl rfl))
      (pss_one (ps_if (pt_not (pt_val (pe_callQ G_l_right qu (hr.mono (by first | decide | omega)) rfl D_l_right.mg D_l_right.fn.kp D_l_right.bd pass0 (pa_cons (pv 1) (pa_cons (pv 5) (pa_cons (pv 3) pa_nil))))))
        (pss_one (ps_ret pe_bl))
        pss_nil)))))))))
  (Evl.pss_cut (ps_setLc (i := 7) (own := [("_law_k", 8)]) rfl sc_law.nd rfl rfl (sw_true rfl rfl rfl (by decide +kernel)) (pi_range1 rfl bi.range (pa_cons (pe_op op_add pe_int (pe_call G_l_take (hr.mono (by first | decide | omega)) rfl D_l_take.mg D_l_take.fn.kp D_l_take.bd .nil pass0 (pa_cons (pv 1) (pa_cons pe_int pa_nil)))) pa_nil)) (blkOk_by (N := ["_law_script", "_law_bag_here", "_law_turn", "_law_given", "_law_passed", "_law_spans", "_law_again", "_law_some", "_law_k", "_law_many_here"]) (sc := defScope s_law) (by decide +kernel)) (fun _ _ _ _ _ => (pg_name (i := 8) sc_law.nd rfl (Or.inl rfl))) (fun _ _ _ _ _ => pts_nil) (fun _ _ _ _ _ => (pe_tup (pa_cons (pe_op op_mul pe_int (pv 8)) (pa_cons (pe_op op_add (pe_op op_mul pe_int (pv 8)) pe_int) pa_nil)))))
  (pss_cons (ps_set (i := 9) sc_law.nd rfl (Or.inl rfl) (pe_make T_Spans.mak G_Spans___init (hr.mono (by first | decide | omega)) rfl T_Spans.gC D_Spans___init.bd .nil passL (pa_cons (pe_revL (pv 7)) pa_nil)))
  (pss_cons (ps_if (pt_not (pt_val (pe_callQ G_l_alike qu (hr.mono (by first | decide | omega)) rfl D_l_alike.mg D_l_alike.fn.kp D_l_alike.bd pass0 (pa_cons (pe_lst (pa_cons (pe_meth0 (pv 9) T_Spans.cl D_Spans_pairs.mt G_Spans_pairs (hr.mono (by first | decide | omega)) D_Spans_pairs.bd .nil pass0) (pa_cons (pe_meth0 (pv 9) T_Spans.cl D_Spans_many.mt G_Spans_many (hr.mono (by first | decide | omega)) D_Spans_many.bd .nil pass0) (pa_cons (pe_callB (call_lenI SO.len SO.lenf R_len (hr.mono (by first | decide | omega)) pass0) (by rfl) bi.len bt_len (pa_cons (pe_un (un_invI SO.inv SO.invf R_inv (hr.mono (by first | decide | omega)) pass0) (pv 9)) pa_nil)) pa_nil)))) (pa_cons (pe_lst (pa_cons (pv 7) (pa_cons (pe_op op_mul pe_int (pe_callB call_len_seq (by rfl) bi.len bt_len (pa_cons (pv 7) pa_nil))) (pa_cons (pe_op op_add (pe_callB call_len_seq (by rfl) bi.len bt_len (pa_cons (pv 7) pa_nil)) pe_int) pa_nil)))) pa_nil)))))
    (pss_one (ps_ret pe_bl))
    pss_nil)
  (pss_one (ps_ret (pe_and (pe_cmpR (op_eqD hu64) (pe_meth0 (pe_make T_Spans.mak G_Spans___init (hr.mono (by first | decide | omega)) rfl T_Spans.gC D_Spans___init.bd .nil passL (pa_cons (pe_lst pa_nil) pa_nil)) T_Spans.cl D_Spans_pairs.mt G_Spans_pairs (hr.mono (by first | decide | omega)) D_Spans_pairs.bd .nil pass0) (pe_lst pa_nil) (nomark _)) (pe_and (pe_cmpR op_isN (pe_meth0 (pe_make T_Spans.mak G_Spans___init (hr.mono (by first | decide | omega)) rfl T_Spans.gC D_Spans___init.bd .nil passL (pa_cons (pe_tup pa_nil) pa_nil)) T_Spans.cl D_Spans_least.mt G_Spans_least (hr.mono (by first | decide | omega)) D_Spans_least.bd .nil pass0) pe_non (nomark _)) (pe_one (pe_cmpR (op_eqD hu64) (pe_meth0 (pe_make T_Spans.mak G_Spans___init (hr.mono (by first | decide | omega)) rfl T_Spans.gC D_Spans___init.bd .nil passL (pa_cons (pe_lst (pa_cons (pe_tup (pa_cons pe_non (pa_cons pe_non pa_nil))) pa_nil)) pa_nil)) T_Spans.cl D_Spans_pairs.mt G_Spans_pairs (hr.mono (by first | decide | omega)) D_Spans_pairs.bd .nil pass0) (pe_lst (pa_cons (pe_tup (pa_cons pe_non (pa_cons pe_non pa_nil))) pa_nil)) (nomark _)))))))))))), ?_⟩
    refine ⟨_, rfl, a, ns, rfl, ha, by omega, fun b H1 e1 hb => ?_⟩
    refine ⟨12, rfl, by decide, by decide, ?_⟩
    refine for_range (n := 12) (fun i σ H' => ∃ x2 x3 x4 x5 x6 x7 x8 x9 : Option V, σ = [some (.ref a), some (.ref b), x2, x3, x4, x5, x6, x7, x8, x9] ∧ Bag H' b) ?_ ?_ ?_
    · exact ⟨none, none, none, none, none, none, none, none, rfl, hb⟩
    · rintro i σ H2 hi ⟨x2, x3, x4, x5, x6, x7, x8, x9, rfl, hb2⟩
      refine ⟨_, rfl, b, rfl, hb2, fun g ys o H3 e3 ng hg hd hok hB hz5 => ?_⟩
      have hb3 := hb2.to e3
      refine ⟨fun σ H' => ∃ (q : Addr) (t : Bool), σ = [some (.ref a), some (.ref b), some (.int (0 + (i : Nat))), some (.ref g), some (.ref q), x5, x6, x7, x8, x9] ∧ Ex H3 H' ∧
        ∃ ws, DpAll K H' ws (o.map dSt) ∧ ((t = false ∧ H3 q = none ∧ H' q = some (.lst ws)) ∨ (t = true ∧ SqT K H' q ws)), ?_, ?_⟩
      · refine ⟨_, rfl, g, ys, rfl, .inl (SqL.of hg), fun l1 nl1 => ?_⟩
        have X_H4 : Ex H3 (upd H3 l1 (.lst ys)) := Ex.new nl1
        have F_H4 : upd H3 l1 (.lst ys) l1 = some (.lst ys) := upd_same
        generalize upd H3 l1 (.lst ys) = H4 at X_H4 F_H4 ⊢
        refine ⟨_, rfl, g, ys, rfl, .inl ⟨SqL.of (X_H4 _ _ hg), fun t1 nt1 => ?_⟩⟩
        have X_H5 : Ex H4 (upd H4 t1 (.tup ys)) := Ex.new nt1
        have F_H5 : upd H4 t1 (.tup ys) t1 = some (.tup ys) := upd_same
        generalize upd H4 t1 (.tup ys) = H5 at X_H5 F_H5 ⊢
        refine ⟨sz2, fun L nL => ?_⟩
        have X_H6 : Ex H5 (upd H5 L (.lst [.ref l1, .ref t1])) := Ex.new nL
        have F_H6 : upd H5 L (.lst [.ref l1, .ref t1]) L = some (.lst [.ref l1, .ref t1]) := upd_same
        generalize upd H5 L (.lst [.ref l1, .ref t1]) = H6 at X_H6 F_H6 ⊢
        have e46 := X_H5.trans X_H6
        have e36 := X_H4.trans e46
        refine ⟨_, rfl, b, 2, rfl, hb3.to e36, by decide, by decide, fun u u0 u1 => ?_⟩
        rcases (by omega : u = 0 ∨ u = 1) with rfl | rfl
        · exact ⟨L, _, 0, .ref l1, rfl, rfl, SqL.of F_H6, rfl, l1, false, rfl, e36, ys, hd.to e36, .inl ⟨rfl, nl1, e46 _ _ F_H4⟩⟩
        · exact ⟨L, _, 1, .ref t1, rfl, rfl, SqL.of F_H6, rfl, t1, true, rfl, e36, ys, hd.to e36, .inr ⟨rfl, SqT.of (X_H6 _ _ F_H5)⟩⟩
      rintro σ H4 ⟨q, t, rfl, e4, ws, hdw, hq⟩
      have hb4 := hb3.to e4
      have st : StsB t K H4 q o := by
        rcases hq with ⟨rfl, _, h⟩ | ⟨rfl, h⟩
        · exact ⟨ws, SqL.of h, hdw⟩
        · exact ⟨ws, h, hdw⟩
      refine ⟨_, rfl, fun p dp np ndp nep => made_sp st hok hz5 (by decide) np ndp fun r H5 e5 hp hm => ?_⟩
      -- grown behind
      refine ⟨fun σ H' => σ = [some (.ref a), some (.ref b), some (.int (0 + (i : Nat))), some (.ref g), some (.ref q), some (.ref p), x6, x7, x8, x9] ∧ Ex H3 H' ∧ SpAt K C H' p r 5, ?_, ?_⟩
      · rcases hq with ⟨rfl, nq, h⟩ | ⟨rfl, h⟩
        · have h5 := e5 _ _ h
          refine ⟨_, rfl, .ref q, .ty "list", _, _, true, rfl, .ty "list", ty_lst (SqL.of h5), ko_ll, _, rfl, if_t rfl ?_⟩
          have wl : ws.length = o.length := sts_len hdw
          refine ⟨_, rfl, .inl ⟨rfl, _, SqL.of h5⟩, 40, rfl, sz2, fun T nT => ?_⟩
          have X_H6 : Ex H5 (upd H5 T (.tup [.int (-40), .int 40])) := Ex.new nT
          have F_H6 : upd H5 T (.tup [.int (-40), .int 40]) T = some (.tup [.int (-40), .int 40]) := upd_same
          generalize upd H5 T (.tup [.int (-40), .int 40]) = H6 at X_H6 F_H6 ⊢
          refine ⟨q, ws, .ref T, rfl, rfl, X_H6 _ _ h5, by rw [sizeLine_eq]; omega, ?_⟩
          exact ⟨rfl, ((e4.trans e5).trans X_H6).mut nq, (hp.to X_H6).put (X_H6 _ _ h5)⟩
        · exact ⟨_, rfl, .ref q, .ty "list", _, _, false, rfl, .ty "list", ty_tup (ex_t e5 h), ko_tl, _, rfl, if_f rfl ⟨rfl, e4.trans e5, hp⟩⟩
      rintro σ H6 ⟨rfl, e6, hp6⟩
      have hb6 := hb3.to e6
      have hg6 := e6 _ _ hg
      have hd6 := hd.to e6
      refine ⟨2, rfl, by decide, by decide, ?_⟩
      refine for_range (n := 2) (fun j σ H' => ∃ x6 : Option V, σ = [some (.ref a), some (.ref b), some (.int (0 + (i : Nat))), some (.ref g), some (.ref q), some (.ref p), x6, x7, x8, x9] ∧ Ex H6 H') ?_ ?_ ?_
      · exact ⟨x6, rfl, Ex.refl _⟩
      · rintro j σ H7 hj ⟨y6, rfl, e7⟩
        exact ⟨_, rfl, _, rfl, _, rfl, b, p, g, ys, o, r, rfl, hb6.to e7, e7 _ _ hg6, hd6.to e7, hok, hB, hz5, hp6.to e7, fun z => (hm z).symm, fun H8 e8 => ⟨_, rfl, if_f rfl ⟨_, rfl, e7.trans e8⟩⟩⟩
      · rintro σ H7 ⟨y6, rfl, e7⟩
        exact ⟨_, _, _, _, _, _, _, _, rfl, hb6.to e7⟩
    · rintro σ H2 ⟨x2, x3, x4, x5, x6, x7, x8, x9, rfl, hb2⟩
      -- the many stretches
      refine ⟨fun σ H' => ∃ (g : Addr) (ws : List V) (n : Nat) (x8 : Option V), σ = [some (.ref a), some (.ref b), x2, x3, x4, x5, x6, some (.ref g), x8, x9] ∧ Ex H2 H' ∧ H' g = some (.lst ws) ∧ DpAll K H' ws ((Spn.thrice n).map dSt) ∧ 0 < n ∧ n ≤ 400, ?_, ?_⟩
      · refine ⟨_, rfl, b, 100, rfl, hb2, by decide, by decide, fun u u0 u1 => ?_⟩
        refine ⟨300, u, rfl, rfl, 300 + u, rfl, by omega, by omega, fun D nD => lc_range (lo := 0) (n := (300 + u).toNat) (fun j H' => Ex H2 H' ∧ ∃ zs, H' D = some (.lst zs) ∧ DpAll K H' zs ((Spn.thrice j).map dSt)) ?_ ?_ ?_⟩
        · exact ⟨Ex.new nD, [], upd_same, .nil⟩
        · rintro j HJ hj ⟨f1, zs, f2, f3⟩
          have zl : zs.length = j := by rw [sts_len f3, Spn.thrice_len]
          refine ⟨rfl, _, rfl, 3, _, rfl, rfl, .inl ⟨by decide, by decide⟩, _, rfl, 3, _, rfl, rfl, .inl ⟨by decide, by decide⟩, _, 1, rfl, rfl, sz2, fun T nT => ?_⟩
          have X_H4 : Ex HJ (upd HJ T (.tup [.int (3 * (0 + (j : Int))), .int (3 * (0 + (j : Int)) + 1)])) := Ex.new nT
          have F_H4 : upd HJ T (.tup [.int (3 * (0 + (j : Int))), .int (3 * (0 + (j : Int)) + 1)]) T = some (.tup [.int (3 * (0 + (j : Int))), .int (3 * (0 + (j : Int)) + 1)]) := upd_same
          generalize upd HJ T (.tup [.int (3 * (0 + (j : Int))), .int (3 * (0 + (j : Int)) + 1)]) = H4 at X_H4 F_H4 ⊢
          have f4 := X_H4 _ _ f2
          have fi : ExI H4 (upd H4 D (.lst (zs ++ [.ref T]))) := ExI.put f4 rfl
          refine ⟨zs, f4, by rw [sizeLine_eq]; omega, (f1.trans X_H4).mut nD, zs ++ [.ref T], upd_same, ?_⟩
          have e : (Spn.thrice (j + 1)).map dSt = (Spn.thrice j).map dSt ++ [dSt (some (3 * (j : Int)), some (3 * (j : Int) + 1))] := by
            unfold Spn.thrice
            rw [List.range_succ, List.map_append, List.map_append]
            rfl
          rw [e]
          refine (dpAll_exI fi _ _ (dSts_flat _) (f3.to X_H4)).app (.one (dSt_mk (p := (some (3 * (j : Int)), some (3 * (j : Int) + 1))) ?_))
          have z : (0 : Int) + j = j := by omega
          rw [z] at F_H4
          exact fi.sq (SqT.of F_H4)
        · rintro H' ⟨f1, zs, f2, f3⟩
          exact ⟨D, zs, (300 + u).toNat, _, rfl, f1, f2, f3, by omega, by omega⟩
      rintro σ H3 ⟨g, ws, n, y8, rfl, e3, hg, hd, n0, n1⟩
      refine ⟨_, rfl, g, ws, rfl, SqL.of hg, fun R nR => ?_⟩
      have wl : ws.length = n := by rw [sts_len hd, Spn.thrice_len]
      have X_H4 : Ex H3 (upd H3 R (.lst ws.reverse)) := Ex.new nR
      have F_H4 : upd H3 R (.lst ws.reverse) R = some (.lst ws.reverse) := upd_same
      generalize upd H3 R (.lst ws.reverse) = H4 at X_H4 F_H4 ⊢
      have hdr : DpAll K H4 ws.reverse (((Spn.thrice n).reverse).map dSt) := by rw [List.map_reverse]; exact dpAll_rev (hd.to X_H4)
      refine fun p dp np ndp nep => made_sp (t := false) (n := 400) ⟨_, SqL.of F_H4, hdr⟩ (fun q hq => Spn.thrice_ok q (List.mem_reverse.mp hq)) (by rw [List.length_reverse, Spn.thrice_len]; exact n1) (by decide) np ndp fun s H5 e5 hp hm => ?_
      obtain rfl : s = Spn.thrice n := Spn.canon_eq hp.2.1 (Spn.thrice_canon n) fun i => by rw [hm]; exact Spn.hasL_perm (List.reverse_perm _)
      have nmp : (("pairs" : Str) == ("_stretches" : Str)) = false := by decide +kernel
      have nmm : (("many" : Str) == ("_stretches" : Str)) = false := by decide +kernel
      have nml : (("least" : Str) == ("_stretches" : Str)) = false := by decide +kernel
      obtain ⟨d1, f1, h1, h2⟩ := at_sp nmp hp
      refine ⟨_, rfl, p, d1, f1, rfl, h1, h2, p, _, _, rfl, hp, fun l zs H6 e6 nl hl hdl => ?_⟩
      have hp6 := hp.to e6
      obtain ⟨d2, f2, h3, h4⟩ := at_sp nmm hp6
      refine ⟨_, rfl, p, d2, f2, rfl, h3, h4, p, _, _, rfl, hp6, by decide, fun H7 e7 => ?_⟩
      have hp7 := hp6.to e7
      refine ⟨_, rfl, use_inv hp7 (by decide) fun x s' H8 e8 hx hmx => ?_⟩
      have gc := Spn.gaps_ok (Spn.thrice_canon n)
      have sl : s'.length = n + 1 := by
        have e : s' = Spn.gaps (Spn.thrice n) := Spn.canon_eq hx.2.1 gc.1 fun i => by rw [hmx, gc.2]
        rw [e, Spn.thrice_gaps n0]
      obtain ⟨⟨d3, t3, h5, _⟩, _⟩ := id hx
      refine ⟨x, d3, _, rfl, h5, x, s', _, rfl, hx, s'.length, rfl, by rw [sl, sizeLine_eq]; omega, sz3, fun F nF => ?_⟩
      have X_H9 : Ex H8 (upd H8 F (.lst [.ref l, vO (manyO (Spn.thrice n)), .int s'.length])) := Ex.new nF
      have F_H9 : upd H8 F (.lst [.ref l, vO (manyO (Spn.thrice n)), .int s'.length]) F = some (.lst [.ref l, vO (manyO (Spn.thrice n)), .int s'.length]) := upd_same
      generalize upd H8 F (.lst [.ref l, vO (manyO (Spn.thrice n)), .int s'.length]) = H9 at X_H9 F_H9 ⊢
      have e69 := (e7.trans e8).trans X_H9
      have e39 := (X_H4.trans (e5.trans e6)).trans e69
      have hg9 := e39 _ _ hg
      refine ⟨_, rfl, _, rfl, g, ws, rfl, .inl (SqL.of hg9), 2, _, rfl, rfl, .inl ⟨by decide, by decide⟩, ?_⟩
      refine ⟨_, rfl, g, ws, rfl, .inl (SqL.of hg9), _, 1, rfl, rfl, sz3, fun G nG => ?_⟩
      have X_H10 : Ex H9 (upd H9 G (.lst [.ref g, .int (2 * (ws.length : Int)), .int ((ws.length : Int) + 1)])) := Ex.new nG
      have F_H10 : upd H9 G (.lst [.ref g, .int (2 * (ws.length : Int)), .int ((ws.length : Int) + 1)]) G = some (.lst [.ref g, .int (2 * (ws.length : Int)), .int ((ws.length : Int) + 1)]) := upd_same
      generalize upd H9 G (.lst [.ref g, .int (2 * (ws.length : Int)), .int ((ws.length : Int) + 1)]) = H10 at X_H10 F_H10 ⊢
      obtain ⟨q1, q2, q3⟩ := many_ok n1
      have em : manyO (Spn.thrice n) = some (2 * (n : Int)) := by unfold manyO; rw [if_pos (Spn.thrice_fin n), Spn.thrice_cnt]
      refine ⟨.ref F, .ref G, _, rfl, .lst (SqL.of (X_H10 _ _ F_H9)) ?_, .lst (SqL.of F_H10) ?_, q1, q2, q3, _, rfl, if_f rfl ?_⟩
      · rw [em, sl]
        exact .cons (.lst (SqL.of ((e69.trans X_H10) _ _ hl)) (hdl.to (e69.trans X_H10))) (.cons (.int _) (.cons (by rw [Int.natCast_add]; exact .int _) .nil))
      · rw [wl]
        exact .cons (.lst (SqL.of (X_H10 _ _ hg9)) (hd.to (e39.trans X_H10))) (.cons (.int _) (.cons (.int _) .nil))
      refine ⟨Nat.zero_le _, fun E1 nE1 => ?_⟩
      have X_H11 : Ex H10 (upd H10 E1 (.lst [])) := Ex.new nE1
      have F_H11 : upd H10 E1 (.lst []) E1 = some (.lst []) := upd_same
      generalize upd H10 E1 (.lst []) = H11 at X_H11 F_H11 ⊢
      refine fun p2 dp2 np2 ndp2 nep2 => made_sp (t := false) (s := []) (n := 5) ⟨[], SqL.of F_H11, .nil⟩ (by simp) (by decide) (by decide) np2 ndp2 fun r1 H12 e12 g1 m1 => ?_
      obtain rfl : r1 = [] := (Spn.canon_nil g1.2.1).mpr fun i hi => Spn.hasL_nil i ((m1 i).mp hi)
      obtain ⟨d4, f4, h6, h7⟩ := at_sp nmp g1
      refine ⟨p2, d4, f4, rfl, h6, h7, p2, _, _, rfl, g1, fun l2 z2 H13 e13 nl2 hl2 hdl2 => ⟨Nat.zero_le _, fun E2 nE2 => ?_⟩⟩
      have X_H14 : Ex H13 (upd H13 E2 (.lst [])) := Ex.new nE2
      have F_H14 : upd H13 E2 (.lst []) E2 = some (.lst []) := upd_same
      generalize upd H13 E2 (.lst []) = H14 at X_H14 F_H14 ⊢
      refine ⟨.list [], .list [], .lst (SqL.of (X_H14 _ _ hl2)) (hdl2.to X_H14), .lst (SqL.of F_H14) .nil, rfl, rfl, _, rfl, if_t rfl ?_⟩
      refine ⟨Nat.zero_le _, fun E3 nE3 => ?_⟩
      have X_H15 : Ex H14 (upd H14 E3 (.tup [])) := Ex.new nE3
      have F_H15 : upd H14 E3 (.tup []) E3 = some (.tup []) := upd_same
      generalize upd H14 E3 (.tup []) = H15 at X_H15 F_H15 ⊢
      refine fun p3 dp3 np3 ndp3 nep3 => made_sp (t := true) (s := []) (n := 5) ⟨[], SqT.of F_H15, .nil⟩ (by simp) (by decide) (by decide) np3 ndp3 fun r2 H16 e16 g2 m2 => ?_
      obtain rfl : r2 = [] := (Spn.canon_nil g2.2.1).mpr fun i hi => Spn.hasL_nil i ((m2 i).mp hi)
      obtain ⟨d5, f5, h8, h9⟩ := at_sp nml g2
      refine ⟨p3, d5, f5, rfl, h8, h9, p3, _, _, rfl, g2, by decide, fun o H17 ho e17 => ?_⟩
      obtain rfl : o = none := by
        cases o with
        | none => rfl
        | some z => exact absurd ho.1 (Spn.hasL_nil z)
      refine ⟨rfl, _, rfl, if_t rfl ?_⟩
      refine ⟨sz2, fun T nT => ?_⟩
      have X_H18 : Ex H17 (upd H17 T (.tup [.non, .non])) := Ex.new nT
      have F_H18 : upd H17 T (.tup [.non, .non]) T = some (.tup [.non, .non]) := upd_same
      generalize upd H17 T (.tup [.non, .non]) = H18 at X_H18 F_H18 ⊢
      refine ⟨sz1, fun L nL => ?_⟩
      have X_H19 : Ex H18 (upd H18 L (.lst [.ref T])) := Ex.new nL
      have F_H19 : upd H18 L (.lst [.ref T]) L = some (.lst [.ref T]) := upd_same
      generalize upd H18 L (.lst [.ref T]) = H19 at X_H19 F_H19 ⊢
      have okn : ∀ q ∈ [((none, none) : Sx)], Spn.ok q := fun q hq => by rw [List.mem_singleton] at hq; subst hq; exact fun _ _ e => by cases e
      refine fun p4 dp4 np4 ndp4 nep4 => made_sp (t := false) (s := [(none, none)]) (n := 5) ⟨_, SqL.of F_H19, .one (dSt_mk (p := (none, none)) (SqT.of (X_H19 _ _ F_H18)))⟩ okn (by show 1 ≤ 5; decide) (by decide) np4 ndp4 fun r3 H20 e20 g3 m3 => ?_
      obtain rfl : r3 = [(none, none)] := Spn.canon_eq g3.2.1 (Spn.Canon.one (okn _ (List.mem_singleton.mpr rfl))) m3
      obtain ⟨d6, f6, h10, h11⟩ := at_sp nmp g3
      refine ⟨p4, d6, f6, rfl, h10, h11, p4, _, _, rfl, g3, fun l4 z4 H21 e21 nl4 hl4 hdl4 => ⟨sz2, fun T2 nT2 => ?_⟩⟩
      have X_H22 : Ex H21 (upd H21 T2 (.tup [.non, .non])) := Ex.new nT2
      have F_H22 : upd H21 T2 (.tup [.non, .non]) T2 = some (.tup [.non, .non]) := upd_same
      generalize upd H21 T2 (.tup [.non, .non]) = H22 at X_H22 F_H22 ⊢
      refine ⟨sz1, fun L2 nL2 => ?_⟩
      have X_H23 : Ex H22 (upd H22 L2 (.lst [.ref T2])) := Ex.new nL2
      have F_H23 : upd H22 L2 (.lst [.ref T2]) L2 = some (.lst [.ref T2]) := upd_same
      generalize upd H22 L2 (.lst [.ref T2]) = H23 at X_H23 F_H23 ⊢
      refine ⟨.list ([((none, none) : Sx)].map dSt), .list ([((none, none) : Sx)].map dSt), .lst (SqL.of ((X_H22.trans X_H23) _ _ hl4)) (hdl4.to (X_H22.trans X_H23)), .lst (SqL.of F_H23) (.one (dSt_mk (p := (none, none)) (SqT.of (X_H23 _ _ F_H22)))), rfl, rfl, ?_⟩
      exact k _
end
end K12

set_option Elab.async false
set_option linter.all false
set_option maxRecDepth 100000
set_option maxHeartbeats 8000000
namespace K12
open PySem PySem.Spec PyProof.Rows L2 Evl Gx
theorem isdef_mk {K : PySem.W.Frag} {x qual : Str} {st : Stmt} {f : Addr} {oc : Value} {od : Option Addr} {kV doc pm : Value} {an : Option Addr} {cdv ct : Value} {osl : Array (Option Value)}
    (l : K.lookup f = some ⟨oc, od, .func (PySem.W.fnOf x qual (defArgs st) (defBody st) (defScope st) .none kV doc pm an cdv ct), osl⟩)
    (c : PySem.W.codeIn K cdv qual = true) (k : PySem.W.keepIn K (.ref f) = true) : IsDef K x qual st f := ⟨_, _, _, _, _, _, _, _, _, l, c, k⟩
theorem cls_mk {K : PySem.W.Frag} {C : Addr} {nm q : Str} {N : Addr} {bs bm : List Value} {sn : List Str} {sub : List Value} {ab : Bool} {col : Option Bool} {dd : Option Addr} {k0 k1 k2 k3 k5 : Option Value}
    (l : K.lookup C = some (excClassObj nm q C N bs bm true sn sub ab col dd k0 k1 k2 k3 k5 "ValueError.__new__")) (v : HandSPX.refsVE bm = true) :
    ∃ nm q N bs bm sn sub ab col dd k0 k1 k2 k3 k5, K.lookup C = some (excClassObj nm q C N bs bm true sn sub ab col dd k0 k1 k2 k3 k5 "ValueError.__new__") ∧ HandSPX.refsVE bm = true :=
  ⟨_, _, _, _, _, _, _, _, _, _, _, _, _, _, _, l, v⟩
/-- the error class's own clause takes it -/
theorem exm_own {K : PySem.W.Frag} {C : Addr} (h1 : PySem.W.subIn K (.ref C) (.type "BaseException") = some true) (h2 : PySem.W.isClsIn K C = true)
    (h3 : PySem.W.typeIn K (.ref C) = some (.type "type")) (h4 : PySem.W.subIn K (.ref C) (.ref C) = some true) : PySem.W.exmOne K (.ref C) (.ref C) = some true := by
  have g : (PySem.W.clsIn K C).isSome = true := h2
  have b : ((PySem.W.clsIn K C).isSome && PySem.W.typeIn K (.ref C) == some (.type "type")) = true := by rw [g, h3]; rfl
  have a : (PySem.W.subIn K (.ref C) (.type "BaseException") == some true) = true := by rw [h1]; rfl
  show (if (PySem.W.subIn K (.ref C) (.type "BaseException") == some true) = true then
    (if ((PySem.W.clsIn K C).isSome && PySem.W.typeIn K (.ref C) == some (.type "type")) = true then PySem.W.subIn K (.ref C) (.ref C) else none) else none) = some true
  rw [if_pos a, if_pos b]
  exact h4
theorem err_mk {K : PySem.W.Frag} {h : Heap} {mg : Str → Option Value} {x qual fl : Str} {ps : List Str} {st : Stmt} {C fI : Addr} (X : K.In h) (G : h.Ns mainGlobals mg)
    (aC : PySem.W.nsIn K mainGlobals x = some (some (.ref C)))
    (cC : ∃ nm q N bs bm sn sub ab col dd k0 k1 k2 k3 k5, K.lookup C = some (excClassObj nm q C N bs bm true sn sub ab col dd k0 k1 k2 k3 k5 "ValueError.__new__") ∧ HandSPX.refsVE bm = true)
    (sa : PySem.W.findIn K (.ref C) "__setattr__" = some (some (.builtin "object.__setattr__")))
    (ga : PySem.W.findIn K (.ref C) "__getattribute__" = some (some (.builtin "BaseException.__getattribute__")))
    (gg : PySem.W.findIn K (.ref C) "__getattr__" = some none) (no : PySem.W.findIn K (.ref C) fl = some none)
    (iC : PySem.W.findIn K (.ref C) "__init__" = some (some (.ref fI))) (tI : PySem.W.typeIn K (.ref fI) = some (.type "function"))
    (kC : PySem.W.keepIn K (.ref C) = true) (eC : PySem.W.subIn K (.ref C) (.type "BaseException") = some true) (tC : PySem.W.typeIn K (.ref C) = some (.type "type"))
    (hC : PySem.W.hasDictIn K C = true) (oC : PySem.W.isClsIn K C = true) (sC : PySem.W.subIn K (.ref C) (.ref C) = some true)
    (d : IsDef K "__init__" qual st fI)
    (hb : ∀ (kV doc pm : Value) (an : Option Addr) (cdv ct : Value) (us : List Value), us.length = ps.length →
      bindArgs (PySem.W.fnOf "__init__" qual (defArgs st) (defBody st) (defScope st) .none kV doc pm an cdv ct) ⟨us, []⟩ = pure (ps.zip us)) :
    ∃ fd, Err K mg x qual fl ps st C fI fd := by
  obtain ⟨fd, F⟩ := d.fn
  exact ⟨fd, ⟨cC, sa, eC, tC, kC⟩, PySem.W.mg_of X G aC, iC, tI, no, ⟨ga, gg, eC, hC⟩, exm_own eC oC tC sC, F, F.binds hb⟩
theorem all_ok {P : Program} {w : World} {K : PySem.W.Frag} {h : Heap} {mg : Str → Option Value} {fa f_is_integer f_is_end f_is_pair f_are_pairs f_low f_in_order f_joined f_gaps f_later f_is_earlier f_met f_nearest f_distance f_made f_spans_of f_l_bag f_l_take f_l_alike f_l_drawn_pairs f_l_lies f_l_ends f_l_are_told f_l_nearest f_l_many f_l_first_right f_l_right f_law C_Wrong fI_Wrong C_Spans f_Spans___init f_Spans_pairs f_Spans_least f_Spans_many f_Spans_within f_Spans___len f_Spans___iter f_Spans___contains f_Spans___or f_Spans___and f_Spans___sub f_Spans___invert f_Spans___eq : Addr} (X : K.In h) (G : h.Ns mainGlobals mg) (hfa : mg "law" = some (.ref fa))
    (a_is_integer : PySem.W.nsIn K mainGlobals "is_integer" = some (some (.ref f_is_integer))) (d_is_integer : IsDef K "is_integer" "is_integer" s_is_integer f_is_integer)
    (a_is_end : PySem.W.nsIn K mainGlobals "_is_end" = some (some (.ref f_is_end))) (d_is_end : IsDef K "_is_end" "_is_end" s_is_end f_is_end)
    (a_is_pair : PySem.W.nsIn K mainGlobals "_is_pair" = some (some (.ref f_is_pair))) (d_is_pair : IsDef K "_is_pair" "_is_pair" s_is_pair f_is_pair)
    (a_are_pairs : PySem.W.nsIn K mainGlobals "_are_pairs" = some (some (.ref f_are_pairs))) (d_are_pairs : IsDef K "_are_pairs" "_are_pairs" s_are_pairs f_are_pairs)
    (a_low : PySem.W.nsIn K mainGlobals "_low" = some (some (.ref f_low))) (d_low : IsDef K "_low" "_low" s_low f_low)
    (a_in_order : PySem.W.nsIn K mainGlobals "_in_order" = some (some (.ref f_in_order))) (d_in_order : IsDef K "_in_order" "_in_order" s_in_order f_in_order)
    (a_joined : PySem.W.nsIn K mainGlobals "_joined" = some (some (.ref f_joined))) (d_joined : IsDef K "_joined" "_joined" s_joined f_joined)
    (a_gaps : PySem.W.nsIn K mainGlobals "_gaps" = some (some (.ref f_gaps))) (d_gaps : IsDef K "_gaps" "_gaps" s_gaps f_gaps)
    (a_later : PySem.W.nsIn K mainGlobals "_later" = some (some (.ref f_later))) (d_later : IsDef K "_later" "_later" s_later f_later)
    (a_is_earlier : PySem.W.nsIn K mainGlobals "_is_earlier" = some (some (.ref f_is_earlier))) (d_is_earlier : IsDef K "_is_earlier" "_is_earlier" s_is_earlier f_is_earlier)
    (a_met : PySem.W.nsIn K mainGlobals "_met" = some (some (.ref f_met))) (d_met : IsDef K "_met" "_met" s_met f_met)
    (a_nearest : PySem.W.nsIn K mainGlobals "_nearest" = some (some (.ref f_nearest))) (d_nearest : IsDef K "_nearest" "_nearest" s_nearest f_nearest)
    (a_distance : PySem.W.nsIn K mainGlobals "_distance" = some (some (.ref f_distance))) (d_distance : IsDef K "_distance" "_distance" s_distance f_distance)
    (a_made : PySem.W.nsIn K mainGlobals "_made" = some (some (.ref f_made))) (d_made : IsDef K "_made" "_made" s_made f_made)
    (a_spans_of : PySem.W.nsIn K mainGlobals "spans_of" = some (some (.ref f_spans_of))) (d_spans_of : IsDef K "spans_of" "spans_of" s_spans_of f_spans_of)
    (a_l_bag : PySem.W.nsIn K mainGlobals "_law_bag" = some (some (.ref f_l_bag))) (d_l_bag : IsDef K "_law_bag" "_law_bag" s_l_bag f_l_bag)
    (a_l_take : PySem.W.nsIn K mainGlobals "_law_take" = some (some (.ref f_l_take))) (d_l_take : IsDef K "_law_take" "_law_take" s_l_take f_l_take)
    (a_l_alike : PySem.W.nsIn K mainGlobals "_law_alike" = some (some (.ref f_l_alike))) (d_l_alike : IsDef K "_law_alike" "_law_alike" s_l_alike f_l_alike)
    (a_l_drawn_pairs : PySem.W.nsIn K mainGlobals "_law_drawn_pairs" = some (some (.ref f_l_drawn_pairs))) (d_l_drawn_pairs : IsDef K "_law_drawn_pairs" "_law_drawn_pairs" s_l_drawn_pairs f_l_drawn_pairs)
    (a_l_lies : PySem.W.nsIn K mainGlobals "_law_lies" = some (some (.ref f_l_lies))) (d_l_lies : IsDef K "_law_lies" "_law_lies" s_l_lies f_l_lies)
    (a_l_ends : PySem.W.nsIn K mainGlobals "_law_ends" = some (some (.ref f_l_ends))) (d_l_ends : IsDef K "_law_ends" "_law_ends" s_l_ends f_l_ends)
    (a_l_are_told : PySem.W.nsIn K mainGlobals "_law_are_told" = some (some (.ref f_l_are_told))) (d_l_are_told : IsDef K "_law_are_told" "_law_are_told" s_l_are_told f_l_are_told)
    (a_l_nearest : PySem.W.nsIn K mainGlobals "_law_nearest" = some (some (.ref f_l_nearest))) (d_l_nearest : IsDef K "_law_nearest" "_law_nearest" s_l_nearest f_l_nearest)
    (a_l_many : PySem.W.nsIn K mainGlobals "_law_many" = some (some (.ref f_l_many))) (d_l_many : IsDef K "_law_many" "_law_many" s_l_many f_l_many)
    (a_l_first_right : PySem.W.nsIn K mainGlobals "_law_first_right" = some (some (.ref f_l_first_right))) (d_l_first_right : IsDef K "_law_first_right" "_law_first_right" s_l_first_right f_l_first_right)
    (a_l_right : PySem.W.nsIn K mainGlobals "_law_right" = some (some (.ref f_l_right))) (d_l_right : IsDef K "_law_right" "_law_right" s_l_right f_l_right)
    (a_law : PySem.W.nsIn K mainGlobals "law" = some (some (.ref f_law))) (d_law : IsDef K "law" "law" s_law f_law)
    (b_len : PySem.W.nsIn K mainGlobals "len" = some none)
    (b_abs : PySem.W.nsIn K mainGlobals "abs" = some none)
    (b_max : PySem.W.nsIn K mainGlobals "max" = some none)
    (b_min : PySem.W.nsIn K mainGlobals "min" = some none)
    (b_repr : PySem.W.nsIn K mainGlobals "repr" = some none)
    (b_int : PySem.W.nsIn K mainGlobals "int" = some none)
    (b_tuple : PySem.W.nsIn K mainGlobals "tuple" = some none)
    (b_list : PySem.W.nsIn K mainGlobals "list" = some none)
    (b_dict : PySem.W.nsIn K mainGlobals "dict" = some none)
    (b_isinstance : PySem.W.nsIn K mainGlobals "isinstance" = some none)
    (b_sorted : PySem.W.nsIn K mainGlobals "sorted" = some none)
    (b_sum : PySem.W.nsIn K mainGlobals "sum" = some none)
    (b_all : PySem.W.nsIn K mainGlobals "all" = some none)
    (b_any : PySem.W.nsIn K mainGlobals "any" = some none)
    (b_range : PySem.W.nsIn K mainGlobals "range" = some none)
    (b_enumerate : PySem.W.nsIn K mainGlobals "enumerate" = some none)
    (b_zip : PySem.W.nsIn K mainGlobals "zip" = some none)
    (b_bool : PySem.W.nsIn K mainGlobals "bool" = some none)
    (b_str : PySem.W.nsIn K mainGlobals "str" = some none)
    (b_set : PySem.W.nsIn K mainGlobals "set" = some none)
    (e_Wrong : ∃ fd, Err K mg "Wrong" "Wrong.__init__" "place" ["self", "place"] s_Wrong___init C_Wrong fI_Wrong fd)
    (aC_Spans : PySem.W.nsIn K mainGlobals "Spans" = some (some (.ref C_Spans))) (T0_Spans : Cls K C_Spans) (M_Spans : Mk K C_Spans f_Spans___init)
    (N_Spans__stretches : NoAttr K C_Spans "_stretches")
    (am_Spans___init : PySem.W.findIn K (.ref C_Spans) "__init__" = some (some (.ref f_Spans___init))) (im_Spans___init : PySem.W.isFn K (.ref f_Spans___init) = true) (d_Spans___init : IsDef K "__init__" "Spans.__init__" s_Spans___init f_Spans___init)
    (am_Spans_pairs : PySem.W.findIn K (.ref C_Spans) "pairs" = some (some (.ref f_Spans_pairs))) (im_Spans_pairs : PySem.W.isFn K (.ref f_Spans_pairs) = true) (d_Spans_pairs : IsDef K "pairs" "Spans.pairs" s_Spans_pairs f_Spans_pairs)
    (am_Spans_least : PySem.W.findIn K (.ref C_Spans) "least" = some (some (.ref f_Spans_least))) (im_Spans_least : PySem.W.isFn K (.ref f_Spans_least) = true) (d_Spans_least : IsDef K "least" "Spans.least" s_Spans_least f_Spans_least)
    (am_Spans_many : PySem.W.findIn K (.ref C_Spans) "many" = some (some (.ref f_Spans_many))) (im_Spans_many : PySem.W.isFn K (.ref f_Spans_many) = true) (d_Spans_many : IsDef K "many" "Spans.many" s_Spans_many f_Spans_many)
    (am_Spans_within : PySem.W.findIn K (.ref C_Spans) "within" = some (some (.ref f_Spans_within))) (im_Spans_within : PySem.W.isFn K (.ref f_Spans_within) = true) (d_Spans_within : IsDef K "within" "Spans.within" s_Spans_within f_Spans_within)
    (am_Spans___len : PySem.W.findIn K (.ref C_Spans) "__len__" = some (some (.ref f_Spans___len))) (im_Spans___len : PySem.W.isFn K (.ref f_Spans___len) = true) (d_Spans___len : IsDef K "__len__" "Spans.__len__" s_Spans___len f_Spans___len)
    (am_Spans___iter : PySem.W.findIn K (.ref C_Spans) "__iter__" = some (some (.ref f_Spans___iter))) (im_Spans___iter : PySem.W.isFn K (.ref f_Spans___iter) = true) (d_Spans___iter : IsDef K "__iter__" "Spans.__iter__" s_Spans___iter f_Spans___iter)
    (am_Spans___contains : PySem.W.findIn K (.ref C_Spans) "__contains__" = some (some (.ref f_Spans___contains))) (im_Spans___contains : PySem.W.isFn K (.ref f_Spans___contains) = true) (d_Spans___contains : IsDef K "__contains__" "Spans.__contains__" s_Spans___contains f_Spans___contains)
    (am_Spans___or : PySem.W.findIn K (.ref C_Spans) "__or__" = some (some (.ref f_Spans___or))) (im_Spans___or : PySem.W.isFn K (.ref f_Spans___or) = true) (d_Spans___or : IsDef K "__or__" "Spans.__or__" s_Spans___or f_Spans___or)
    (am_Spans___and : PySem.W.findIn K (.ref C_Spans) "__and__" = some (some (.ref f_Spans___and))) (im_Spans___and : PySem.W.isFn K (.ref f_Spans___and) = true) (d_Spans___and : IsDef K "__and__" "Spans.__and__" s_Spans___and f_Spans___and)
    (am_Spans___sub : PySem.W.findIn K (.ref C_Spans) "__sub__" = some (some (.ref f_Spans___sub))) (im_Spans___sub : PySem.W.isFn K (.ref f_Spans___sub) = true) (d_Spans___sub : IsDef K "__sub__" "Spans.__sub__" s_Spans___sub f_Spans___sub)
    (am_Spans___invert : PySem.W.findIn K (.ref C_Spans) "__invert__" = some (some (.ref f_Spans___invert))) (im_Spans___invert : PySem.W.isFn K (.ref f_Spans___invert) = true) (d_Spans___invert : IsDef K "__invert__" "Spans.__invert__" s_Spans___invert f_Spans___invert)
    (am_Spans___eq : PySem.W.findIn K (.ref C_Spans) "__eq__" = some (some (.ref f_Spans___eq))) (im_Spans___eq : PySem.W.isFn K (.ref f_Spans___eq) = true) (d_Spans___eq : IsDef K "__eq__" "Spans.__eq__" s_Spans___eq f_Spans___eq)
    (z_sf : PySem.W.selfFirst K C_Spans = true)
    (z_ne : PySem.W.findIn K (.ref C_Spans) "__ne__" = some (some (.builtin "object.__ne__")))
    (z_cm : PySem.W.mroIn K C_Spans (.type "object") = some true)
    (z_ca : PySem.W.findIn K (.ref C_Spans) "__class__" = some (some (.builtin "object.__class__")))
    (z_cn : PySem.W.specialIn K (.builtin "object.__class__") "__get__" = some (some (.builtin "getset_descriptor.__get__")))
    (z_ct : PySem.W.takesIn K (.builtin "object.__class__") = some true)
    (b_iter : PySem.W.nsIn K mainGlobals "iter" = some none) :
    ∃ fd : FuncData, (∀ (s : Shared) (u : Value), BindsTo s fd ⟨[u], []⟩ [("_law_script", u)]) ∧ ∀ base : Heap, K.In base → base.Ns mainGlobals mg → FnQ P w K mg base CX0 12 fa fd ["_law_script"] (spLaw K) := by
  have n {x : Str} (z : PySem.W.nsIn K mainGlobals x = some none) : mg x = none := PySem.W.mg_none_of X G z
  have bi : Bi mg := ⟨n b_len, n b_abs, n b_max, n b_min, n b_repr, n b_int, n b_tuple, n b_list, n b_dict, n b_isinstance, n b_sorted, n b_sum, n b_all, n b_any, n b_range, n b_enumerate, n b_zip, n b_bool, n b_str, n b_set⟩
  obtain ⟨fd_is_integer, D_is_integer⟩ := def_mk (ps := ["thing"]) X G a_is_integer d_is_integer fun _ _ _ _ _ _ us hl => match us, hl with | [_], _ => rfl
  obtain ⟨fd_is_end, D_is_end⟩ := def_mk (ps := ["thing"]) X G a_is_end d_is_end fun _ _ _ _ _ _ us hl => match us, hl with | [_], _ => rfl
  obtain ⟨fd_is_pair, D_is_pair⟩ := def_mk (ps := ["thing"]) X G a_is_pair d_is_pair fun _ _ _ _ _ _ us hl => match us, hl with | [_], _ => rfl
  obtain ⟨fd_are_pairs, D_are_pairs⟩ := def_mk (ps := ["thing"]) X G a_are_pairs d_are_pairs fun _ _ _ _ _ _ us hl => match us, hl with | [_], _ => rfl
  obtain ⟨fd_low, D_low⟩ := def_mk (ps := ["pair"]) X G a_low d_low fun _ _ _ _ _ _ us hl => match us, hl with | [_], _ => rfl
  obtain ⟨fd_in_order, D_in_order⟩ := def_mk (ps := ["pairs"]) X G a_in_order d_in_order fun _ _ _ _ _ _ us hl => match us, hl with | [_], _ => rfl
  obtain ⟨fd_joined, D_joined⟩ := def_mk (ps := ["pairs"]) X G a_joined d_joined fun _ _ _ _ _ _ us hl => match us, hl with | [_], _ => rfl
  obtain ⟨fd_gaps, D_gaps⟩ := def_mk (ps := ["stretches"]) X G a_gaps d_gaps fun _ _ _ _ _ _ us hl => match us, hl with | [_], _ => rfl
  obtain ⟨fd_later, D_later⟩ := def_mk (ps := ["one", "other"]) X G a_later d_later fun _ _ _ _ _ _ us hl => match us, hl with | [_, _], _ => rfl
  obtain ⟨fd_is_earlier, D_is_earlier⟩ := def_mk (ps := ["one", "other"]) X G a_is_earlier d_is_earlier fun _ _ _ _ _ _ us hl => match us, hl with | [_, _], _ => rfl
  obtain ⟨fd_met, D_met⟩ := def_mk (ps := ["ones", "others"]) X G a_met d_met fun _ _ _ _ _ _ us hl => match us, hl with | [_, _], _ => rfl
  obtain ⟨fd_nearest, D_nearest⟩ := def_mk (ps := ["pair"]) X G a_nearest d_nearest fun _ _ _ _ _ _ us hl => match us, hl with | [_], _ => rfl
  obtain ⟨fd_distance, D_distance⟩ := def_mk (ps := ["number"]) X G a_distance d_distance fun _ _ _ _ _ _ us hl => match us, hl with | [_], _ => rfl
  obtain ⟨fd_made, D_made⟩ := def_mk (ps := ["stretches"]) X G a_made d_made fun _ _ _ _ _ _ us hl => match us, hl with | [_], _ => rfl
  obtain ⟨fd_spans_of, D_spans_of⟩ := def_mk (ps := ["pairs"]) X G a_spans_of d_spans_of fun _ _ _ _ _ _ us hl => match us, hl with | [_], _ => rfl
  obtain ⟨fd_l_bag, D_l_bag⟩ := def_mk (ps := ["_law_script"]) X G a_l_bag d_l_bag fun _ _ _ _ _ _ us hl => match us, hl with | [_], _ => rfl
  obtain ⟨fd_l_take, D_l_take⟩ := def_mk (ps := ["_law_bag_here", "_law_many_here"]) X G a_l_take d_l_take fun _ _ _ _ _ _ us hl => match us, hl with | [_, _], _ => rfl
  obtain ⟨fd_l_alike, D_l_alike⟩ := def_mk (ps := ["_law_found", "_law_due"]) X G a_l_alike d_l_alike fun _ _ _ _ _ _ us hl => match us, hl with | [_, _], _ => rfl
  obtain ⟨fd_l_drawn_pairs, D_l_drawn_pairs⟩ := def_mk (ps := ["_law_bag_here"]) X G a_l_drawn_pairs d_l_drawn_pairs fun _ _ _ _ _ _ us hl => match us, hl with | [_], _ => rfl
  obtain ⟨fd_l_lies, D_l_lies⟩ := def_mk (ps := ["_law_pairs", "_law_number"]) X G a_l_lies d_l_lies fun _ _ _ _ _ _ us hl => match us, hl with | [_, _], _ => rfl
  obtain ⟨fd_l_ends, D_l_ends⟩ := def_mk (ps := ["_law_pairs"]) X G a_l_ends d_l_ends fun _ _ _ _ _ _ us hl => match us, hl with | [_], _ => rfl
  obtain ⟨fd_l_are_told, D_l_are_told⟩ := def_mk (ps := ["_law_pairs", "_law_listed"]) X G a_l_are_told d_l_are_told fun _ _ _ _ _ _ us hl => match us, hl with | [_, _], _ => rfl
  obtain ⟨fd_l_nearest, D_l_nearest⟩ := def_mk (ps := ["_law_listed"]) X G a_l_nearest d_l_nearest fun _ _ _ _ _ _ us hl => match us, hl with | [_], _ => rfl
  obtain ⟨fd_l_many, D_l_many⟩ := def_mk (ps := ["_law_listed"]) X G a_l_many d_l_many fun _ _ _ _ _ _ us hl => match us, hl with | [_], _ => rfl
  obtain ⟨fd_l_first_right, D_l_first_right⟩ := def_mk (ps := ["_law_given", "_law_listed"]) X G a_l_first_right d_l_first_right fun _ _ _ _ _ _ us hl => match us, hl with | [_, _], _ => rfl
  obtain ⟨fd_l_right, D_l_right⟩ := def_mk (ps := ["_law_bag_here", "_law_spans", "_law_given"]) X G a_l_right d_l_right fun _ _ _ _ _ _ us hl => match us, hl with | [_, _, _], _ => rfl
  obtain ⟨fd_law, D_law⟩ := def_mk (ps := ["_law_script"]) X G a_law d_law fun _ _ _ _ _ _ us hl => match us, hl with | [_], _ => rfl
  obtain ⟨fdI_Wrong, e_Wrong⟩ := e_Wrong
  obtain ⟨fd_Spans___init, D_Spans___init⟩ := mdef_mk (ps := ["self", "pairs"]) am_Spans___init im_Spans___init d_Spans___init fun _ _ _ _ _ _ us hl => match us, hl with | [_, _], _ => rfl
  obtain ⟨fd_Spans_pairs, D_Spans_pairs⟩ := mdef_mk (ps := ["self"]) am_Spans_pairs im_Spans_pairs d_Spans_pairs fun _ _ _ _ _ _ us hl => match us, hl with | [_], _ => rfl
  obtain ⟨fd_Spans_least, D_Spans_least⟩ := mdef_mk (ps := ["self"]) am_Spans_least im_Spans_least d_Spans_least fun _ _ _ _ _ _ us hl => match us, hl with | [_], _ => rfl
  obtain ⟨fd_Spans_many, D_Spans_many⟩ := mdef_mk (ps := ["self"]) am_Spans_many im_Spans_many d_Spans_many fun _ _ _ _ _ _ us hl => match us, hl with | [_], _ => rfl
  obtain ⟨fd_Spans_within, D_Spans_within⟩ := mdef_mk (ps := ["self", "low", "high"]) am_Spans_within im_Spans_within d_Spans_within fun _ _ _ _ _ _ us hl => match us, hl with | [_, _, _], _ => rfl
  obtain ⟨fd_Spans___len, D_Spans___len⟩ := mdef_mk (ps := ["self"]) am_Spans___len im_Spans___len d_Spans___len fun _ _ _ _ _ _ us hl => match us, hl with | [_], _ => rfl
  obtain ⟨fd_Spans___iter, D_Spans___iter⟩ := mdef_mk (ps := ["self"]) am_Spans___iter im_Spans___iter d_Spans___iter fun _ _ _ _ _ _ us hl => match us, hl with | [_], _ => rfl
  obtain ⟨fd_Spans___contains, D_Spans___contains⟩ := mdef_mk (ps := ["self", "x"]) am_Spans___contains im_Spans___contains d_Spans___contains fun _ _ _ _ _ _ us hl => match us, hl with | [_, _], _ => rfl
  obtain ⟨fd_Spans___or, D_Spans___or⟩ := mdef_mk (ps := ["self", "other"]) am_Spans___or im_Spans___or d_Spans___or fun _ _ _ _ _ _ us hl => match us, hl with | [_, _], _ => rfl
  obtain ⟨fd_Spans___and, D_Spans___and⟩ := mdef_mk (ps := ["self", "other"]) am_Spans___and im_Spans___and d_Spans___and fun _ _ _ _ _ _ us hl => match us, hl with | [_, _], _ => rfl
  obtain ⟨fd_Spans___sub, D_Spans___sub⟩ := mdef_mk (ps := ["self", "other"]) am_Spans___sub im_Spans___sub d_Spans___sub fun _ _ _ _ _ _ us hl => match us, hl with | [_, _], _ => rfl
  obtain ⟨fd_Spans___invert, D_Spans___invert⟩ := mdef_mk (ps := ["self"]) am_Spans___invert im_Spans___invert d_Spans___invert fun _ _ _ _ _ _ us hl => match us, hl with | [_], _ => rfl
  obtain ⟨fd_Spans___eq, D_Spans___eq⟩ := mdef_mk (ps := ["self", "other"]) am_Spans___eq im_Spans___eq d_Spans___eq fun _ _ _ _ _ _ us hl => match us, hl with | [_, _], _ => rfl
  have T_Spans : SpansT K mg C_Spans f_Spans___init := ⟨T0_Spans, M_Spans, PySem.W.mg_of X G aC_Spans, N_Spans__stretches⟩
  have dor : PySem.dunder Operator.BitOr.info.2 = ("__or__" : Str) := by decide +kernel
  have dan : PySem.dunder Operator.BitAnd.info.2 = ("__and__" : Str) := by decide +kernel
  have dsu : PySem.dunder Operator.Sub.info.2 = ("__sub__" : Str) := by decide +kernel
  have SO : SpOps K C_Spans f_Spans___or f_Spans___and f_Spans___sub f_Spans___invert f_Spans___len f_Spans___contains f_Spans___eq :=
    ⟨z_sf, by rw [dor]; exact am_Spans___or, im_Spans___or, by rw [dan]; exact am_Spans___and, im_Spans___and, by rw [dsu]; exact am_Spans___sub, im_Spans___sub, am_Spans___invert, im_Spans___invert, am_Spans___len, im_Spans___len, am_Spans___contains, im_Spans___contains, am_Spans___eq, im_Spans___eq, z_ne, z_cm, z_ca, z_cn, z_ct⟩
  have e := hfa.symm.trans D_law.mg
  cases e
  refine ⟨fd_law, fun s u => ?_, fun base _ _ => ?_⟩
  · obtain ⟨_, _, _, _, _, _, _, _, _, rfl, _⟩ := D_law.fn.ex
    exact .of_eq rfl
  have Gb := bag_sealed (ok_bagI (P := P) (w := w) (base := base) D_l_bag bi)
  have GtB := take_sealedB (ok_takeI (P := P) (w := w) (base := base) D_l_take bi)
  have Gt := take_ofB GtB
  have Gii := ok_is_integer (P := P) (w := w) (base := base) D_is_integer bi
  have Gie := ok_is_end (P := P) (w := w) (base := base) D_is_end bi D_is_integer Gii
  have Gip := ok_is_pair (P := P) (w := w) (base := base) D_is_pair bi D_is_end Gie
  have Gap := ok_are_pairs (P := P) (w := w) (base := base) D_are_pairs bi D_is_pair Gip
  have Gio := ok_in_order (P := P) (w := w) (base := base) D_in_order bi D_low
  have Gjo := ok_joined (P := P) (w := w) (base := base) D_joined bi D_in_order Gio
  have Gga := ok_gaps (P := P) (w := w) (base := base) D_gaps bi
  have Gla := ok_later (P := P) (w := w) (base := base) D_later bi
  have Gea := ok_is_earlier (P := P) (w := w) (base := base) D_is_earlier bi
  have Gme := ok_met (P := P) (w := w) (base := base) D_met bi D_later Gla D_is_earlier Gea
  have GW := ok_initW (P := P) (w := w) (mg := mg) (base := base) e_Wrong
  have Gsp := ok_spans (P := P) (w := w) (base := base) T_Spans D_Spans___init bi e_Wrong GW D_are_pairs Gap D_joined Gjo
  have Gmd := ok_made (P := P) (w := w) (base := base) D_made bi T_Spans D_Spans___init Gsp
  have Gpa := ok_pairs (P := P) (w := w) (base := base) D_Spans_pairs bi T_Spans
  have Gle := ok_len (P := P) (w := w) (base := base) D_Spans___len bi T_Spans
  have Giv := ok_inv (P := P) (w := w) (base := base) D_Spans___invert bi T_Spans D_gaps Gga D_made Gmd
  have Gdr := ok_drawn (P := P) (w := w) (base := base) D_l_drawn_pairs bi D_l_take Gt
  have Gne := ok_nearest (P := P) (w := w) (base := base) D_nearest bi
  have Gds := ok_distance (P := P) (w := w) (base := base) D_distance bi
  have Glt := ok_least (P := P) (w := w) (base := base) D_Spans_least bi T_Spans D_nearest Gne D_distance Gds
  have Gmy := ok_many (P := P) (w := w) (base := base) D_Spans_many bi T_Spans
  have Gwn := ok_within (P := P) (w := w) (base := base) D_Spans_within bi T_Spans D_met Gme D_made Gmd
  have Ghs := ok_has (P := P) (w := w) (base := base) D_Spans___contains bi T_Spans
  have Git := ok_iter (P := P) (w := w) (base := base) D_Spans___iter bi T_Spans (n b_iter)
  have Gli := ok_lies (P := P) (w := w) (base := base) D_l_lies bi
  have Gen := ok_ends (P := P) (w := w) (base := base) D_l_ends bi
  have Gto := ok_told (P := P) (w := w) (base := base) D_l_are_told bi D_l_lies Gli D_l_ends Gen
  have Gal := ok_alike (P := P) (w := w) (base := base) D_l_alike bi
  have Gml := ok_manyL (P := P) (w := w) (base := base) D_l_many bi
  have Gnl := ok_nearL (P := P) (w := w) (base := base) D_l_nearest bi D_l_lies Gli
  have Gfi := ok_first (P := P) (w := w) (base := base) D_l_first_right bi T_Spans SO (D_Spans___len.raw Gle) ⟨am_Spans___iter, im_Spans___iter⟩ (D_Spans___iter.raw Git) D_Spans___init Gsp D_Spans_many Gmy D_Spans_least Glt D_l_alike Gal D_l_many Gml D_l_nearest Gnl
  have Gri := ok_right (P := P) (w := w) (base := base) D_l_right bi T_Spans SO (D_Spans___len.raw Gle) (D_Spans___contains.raw Ghs) D_Spans_pairs Gpa D_Spans_many Gmy D_Spans_least Glt D_Spans_within Gwn D_l_take Gt D_l_alike Gal D_l_lies Gli D_l_ends Gen D_l_are_told Gto D_l_many Gml D_l_nearest Gnl D_l_first_right Gfi
  exact ok_law (P := P) (w := w) (base := base) D_law bi T_Spans SO (D_Spans___len.raw Gle) (D_Spans___invert.raw Giv) D_Spans___init Gsp D_Spans_pairs Gpa D_Spans_many Gmy D_Spans_least Glt D_l_bag Gb D_l_take Gt D_l_drawn_pairs Gdr D_l_alike Gal D_l_right Gri
end K12
open PySem PySem.W PyProof.Rows
set_option maxRecDepth 100000 in
set_option maxHeartbeats 0 in
theorem PySem.Challenge.cw_refusedahead_k12_spans_told_holds : PySem.Challenge.rw_refusedahead_k12_spans_told.Holds := by
  w_on; o_law; k_head; (case hw => w_witness2)
  k_fill
  refine Gx.walkQ (l := PySem.Challenge.rw_refusedahead_k12_spans_told) (n := 63) (k := 12) (x := "_law_script") (CX := fun _ => L2.CX0) (sp := fun w => K12.spLaw (_ : PySem.W.Frag)) rfl (by decide) rfl ⟨rfl, by decide, by decide⟩
    (fun w h Y => PySem.W.kIn_of Y) ?F (fun _ _ a ns hl _ hS => ⟨a, ns, rfl, hS, hl, fun _ => rfl⟩) (fun _ _ _ _ _ z => z)
  case F =>
    intro w mg fa h KX G hmg
    refine' K12.all_ok KX G hmg ?a_is_integer ?d_is_integer ?a_is_end ?d_is_end ?a_is_pair ?d_is_pair ?a_are_pairs ?d_are_pairs ?a_low ?d_low ?a_in_order ?d_in_order ?a_joined ?d_joined ?a_gaps ?d_gaps ?a_later ?d_later ?a_is_earlier ?d_is_earlier ?a_met ?d_met ?a_nearest ?d_nearest ?a_distance ?d_distance ?a_made ?d_made ?a_spans_of ?d_spans_of ?a_l_bag ?d_l_bag ?a_l_take ?d_l_take ?a_l_alike ?d_l_alike ?a_l_drawn_pairs ?d_l_drawn_pairs ?a_l_lies ?d_l_lies ?a_l_ends ?d_l_ends ?a_l_are_told ?d_l_are_told ?a_l_nearest ?d_l_nearest ?a_l_many ?d_l_many ?a_l_first_right ?d_l_first_right ?a_l_right ?d_l_right ?a_law ?d_law ?b_len ?b_abs ?b_max ?b_min ?b_repr ?b_int ?b_tuple ?b_list ?b_dict ?b_isinstance ?b_sorted ?b_sum ?b_all ?b_any ?b_range ?b_enumerate ?b_zip ?b_bool ?b_str ?b_set ?e_Wrong ?aC_Spans ?T0_Spans ?M_Spans ?N_Spans__stretches ?am_Spans___init ?im_Spans___init ?d_Spans___init ?am_Spans_pairs ?im_Spans_pairs ?d_Spans_pairs ?am_Spans_least ?im_Spans_least ?d_Spans_least ?am_Spans_many ?im_Spans_many ?d_Spans_many ?am_Spans_within ?im_Spans_within ?d_Spans_within ?am_Spans___len ?im_Spans___len ?d_Spans___len ?am_Spans___iter ?im_Spans___iter ?d_Spans___iter ?am_Spans___contains ?im_Spans___contains ?d_Spans___contains ?am_Spans___or ?im_Spans___or ?d_Spans___or ?am_Spans___and ?im_Spans___and ?d_Spans___and ?am_Spans___sub ?im_Spans___sub ?d_Spans___sub ?am_Spans___invert ?im_Spans___invert ?d_Spans___invert ?am_Spans___eq ?im_Spans___eq ?d_Spans___eq ?z_sf ?z_ne ?z_cm ?z_ca ?z_cn ?z_ct ?b_iter
    (case a_is_integer => k_is)
    (case d_is_integer => refine' K12.isdef_mk ?l ?c ?k; (case l => k_is); (case c => k_is); (case k => k_is))
    (case a_is_end => k_is)
    (case d_is_end => refine' K12.isdef_mk ?l ?c ?k; (case l => k_is); (case c => k_is); (case k => k_is))
    (case a_is_pair => k_is)
    (case d_is_pair => refine' K12.isdef_mk ?l ?c ?k; (case l => k_is); (case c => k_is); (case k => k_is))
    (case a_are_pairs => k_is)
    (case d_are_pairs => refine' K12.isdef_mk ?l ?c ?k; (case l => k_is); (case c => k_is); (case k => k_is))
    (case a_low => k_is)
    (case d_low => refine' K12.isdef_mk ?l ?c ?k; (case l => k_is); (case c => k_is); (case k => k_is))
    (case a_in_order => k_is)
    (case d_in_order => refine' K12.isdef_mk ?l ?c ?k; (case l => k_is); (case c => k_is); (case k => k_is))
    (case a_joined => k_is)
    (case d_joined => refine' K12.isdef_mk ?l ?c ?k; (case l => k_is); (case c => k_is); (case k => k_is))
    (case a_gaps => k_is)
    (case d_gaps => refine' K12.isdef_mk ?l ?c ?k; (case l => k_is); (case c => k_is); (case k => k_is))
    (case a_later => k_is)
    (case d_later => refine' K12.isdef_mk ?l ?c ?k; (case l => k_is); (case c => k_is); (case k => k_is))
    (case a_is_earlier => k_is)
    (case d_is_earlier => refine' K12.isdef_mk ?l ?c ?k; (case l => k_is); (case c => k_is); (case k => k_is))
    (case a_met => k_is)
    (case d_met => refine' K12.isdef_mk ?l ?c ?k; (case l => k_is); (case c => k_is); (case k => k_is))
    (case a_nearest => k_is)
    (case d_nearest => refine' K12.isdef_mk ?l ?c ?k; (case l => k_is); (case c => k_is); (case k => k_is))
    (case a_distance => k_is)
    (case d_distance => refine' K12.isdef_mk ?l ?c ?k; (case l => k_is); (case c => k_is); (case k => k_is))
    (case a_made => k_is)
    (case d_made => refine' K12.isdef_mk ?l ?c ?k; (case l => k_is); (case c => k_is); (case k => k_is))
    (case a_spans_of => k_is)
    (case d_spans_of => refine' K12.isdef_mk ?l ?c ?k; (case l => k_is); (case c => k_is); (case k => k_is))
    (case a_l_bag => k_is)
    (case d_l_bag => refine' K12.isdef_mk ?l ?c ?k; (case l => k_is); (case c => k_is); (case k => k_is))
    (case a_l_take => k_is)
    (case d_l_take => refine' K12.isdef_mk ?l ?c ?k; (case l => k_is); (case c => k_is); (case k => k_is))
    (case a_l_alike => k_is)
    (case d_l_alike => refine' K12.isdef_mk ?l ?c ?k; (case l => k_is); (case c => k_is); (case k => k_is))
    (case a_l_drawn_pairs => k_is)
    (case d_l_drawn_pairs => refine' K12.isdef_mk ?l ?c ?k; (case l => k_is); (case c => k_is); (case k => k_is))
    (case a_l_lies => k_is)
    (case d_l_lies => refine' K12.isdef_mk ?l ?c ?k; (case l => k_is); (case c => k_is); (case k => k_is))
    (case a_l_ends => k_is)
    (case d_l_ends => refine' K12.isdef_mk ?l ?c ?k; (case l => k_is); (case c => k_is); (case k => k_is))
    (case a_l_are_told => k_is)
    (case d_l_are_told => refine' K12.isdef_mk ?l ?c ?k; (case l => k_is); (case c => k_is); (case k => k_is))
    (case a_l_nearest => k_is)
    (case d_l_nearest => refine' K12.isdef_mk ?l ?c ?k; (case l => k_is); (case c => k_is); (case k => k_is))
    (case a_l_many => k_is)
    (case d_l_many => refine' K12.isdef_mk ?l ?c ?k; (case l => k_is); (case c => k_is); (case k => k_is))
    (case a_l_first_right => k_is)
    (case d_l_first_right => refine' K12.isdef_mk ?l ?c ?k; (case l => k_is); (case c => k_is); (case k => k_is))
    (case a_l_right => k_is)
    (case d_l_right => refine' K12.isdef_mk ?l ?c ?k; (case l => k_is); (case c => k_is); (case k => k_is))
    (case a_law => k_is)
    (case d_law => refine' K12.isdef_mk ?l ?c ?k; (case l => k_is); (case c => k_is); (case k => k_is))
    (case b_len => k_is)
    (case b_abs => k_is)
    (case b_max => k_is)
    (case b_min => k_is)
    (case b_repr => k_is)
    (case b_int => k_is)
    (case b_tuple => k_is)
    (case b_list => k_is)
    (case b_dict => k_is)
    (case b_isinstance => k_is)
    (case b_sorted => k_is)
    (case b_sum => k_is)
    (case b_all => k_is)
    (case b_any => k_is)
    (case b_range => k_is)
    (case b_enumerate => k_is)
    (case b_zip => k_is)
    (case b_bool => k_is)
    (case b_str => k_is)
    (case b_set => k_is)
    (case e_Wrong => refine' K12.err_mk KX G ?aC ?cC ?sa ?ga ?gg ?no ?iC ?tI ?kC ?eC ?tC ?hC ?oC ?sC ?d (fun _ _ _ _ _ _ us hl => match us, hl with | [_, _], _ => rfl); (case aC => k_is); (case cC => refine' K12.cls_mk ?l ?v; (case l => k_is); (case v => decide +kernel)); (case sa => k_is); (case ga => k_is); (case gg => k_is); (case no => k_is); (case iC => k_is); (case tI => k_is); (case kC => k_is); (case eC => k_is); (case tC => k_is); (case hC => k_is); (case oC => k_is); (case sC => first | rfl | k_is); (case d => refine' K12.isdef_mk ?l ?c ?k; (case l => k_is); (case c => k_is); (case k => k_is)))
    (case aC_Spans => k_is)
    (case T0_Spans => refine' ⟨?zpg, ?zhd, ?zpo, ?zsa⟩; (case zpg => k_is); (case zhd => k_is); (case zpo => k_is); (case zsa => k_is))
    (case M_Spans => refine' ⟨?zmk, ?zin, ?zfn, ?zkp⟩; (case zmk => k_is); (case zin => k_is); (case zfn => k_is); (case zkp => k_is))
    (case N_Spans__stretches => (show PySem.W.findIn _ _ _ = _); k_is)
    (case am_Spans___init => k_is)
    (case im_Spans___init => k_is)
    (case d_Spans___init => refine' K12.isdef_mk ?l ?c ?k; (case l => k_is); (case c => k_is); (case k => k_is))
    (case am_Spans_pairs => k_is)
    (case im_Spans_pairs => k_is)
    (case d_Spans_pairs => refine' K12.isdef_mk ?l ?c ?k; (case l => k_is); (case c => k_is); (case k => k_is))
    (case am_Spans_least => k_is)
    (case im_Spans_least => k_is)
    (case d_Spans_least => refine' K12.isdef_mk ?l ?c ?k; (case l => k_is); (case c => k_is); (case k => k_is))
    (case am_Spans_many => k_is)
    (case im_Spans_many => k_is)
    (case d_Spans_many => refine' K12.isdef_mk ?l ?c ?k; (case l => k_is); (case c => k_is); (case k => k_is))
    (case am_Spans_within => k_is)
    (case im_Spans_within => k_is)
    (case d_Spans_within => refine' K12.isdef_mk ?l ?c ?k; (case l => k_is); (case c => k_is); (case k => k_is))
    (case am_Spans___len => k_is)
    (case im_Spans___len => k_is)
    (case d_Spans___len => refine' K12.isdef_mk ?l ?c ?k; (case l => k_is); (case c => k_is); (case k => k_is))
    (case am_Spans___iter => k_is)
    (case im_Spans___iter => k_is)
    (case d_Spans___iter => refine' K12.isdef_mk ?l ?c ?k; (case l => k_is); (case c => k_is); (case k => k_is))
    (case am_Spans___contains => k_is)
    (case im_Spans___contains => k_is)
    (case d_Spans___contains => refine' K12.isdef_mk ?l ?c ?k; (case l => k_is); (case c => k_is); (case k => k_is))
    (case am_Spans___or => k_is)
    (case im_Spans___or => k_is)
    (case d_Spans___or => refine' K12.isdef_mk ?l ?c ?k; (case l => k_is); (case c => k_is); (case k => k_is))
    (case am_Spans___and => k_is)
    (case im_Spans___and => k_is)
    (case d_Spans___and => refine' K12.isdef_mk ?l ?c ?k; (case l => k_is); (case c => k_is); (case k => k_is))
    (case am_Spans___sub => k_is)
    (case im_Spans___sub => k_is)
    (case d_Spans___sub => refine' K12.isdef_mk ?l ?c ?k; (case l => k_is); (case c => k_is); (case k => k_is))
    (case am_Spans___invert => k_is)
    (case im_Spans___invert => k_is)
    (case d_Spans___invert => refine' K12.isdef_mk ?l ?c ?k; (case l => k_is); (case c => k_is); (case k => k_is))
    (case am_Spans___eq => k_is)
    (case im_Spans___eq => k_is)
    (case d_Spans___eq => refine' K12.isdef_mk ?l ?c ?k; (case l => k_is); (case c => k_is); (case k => k_is))
    (case z_sf => first | k_is | rfl | decide +kernel)
    (case z_ne => first | k_is | rfl | decide +kernel)
    (case z_cm => first | k_is | rfl | decide +kernel)
    (case z_ca => first | k_is | rfl | decide +kernel)
    (case z_cn => first | k_is | rfl | decide +kernel)
    (case z_ct => first | k_is | rfl | decide +kernel)
    (case b_iter => k_is)

